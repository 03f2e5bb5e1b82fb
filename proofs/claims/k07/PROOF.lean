import PyProof.Rows.All
import Wide.All
import OpenK.AllK
import Wide.FinOn
import HandS.Defaults
import KE.RegKIsAll
import HandS.ForMost
import HandS.WordsExc
import HandS.ExcInit
import HandS.FStr
import HandS.IsInst
import HandS.TupAny
import HandS.Wide
import HandS.Codes
import PyProof.ReprLen
import HandS.DictComp
import HandS.More
import HandS.Text
import HandS.Deep
import KE.SortData
import KE.KIndexOf
import HandS.ExcValue
import KE.KDictWalk
import HandS.Star
import KE.KDictDisplayH
import KE.DatumOrd
import HandS.SortKw
import KE.KExcIs
import HandS.ExcField
import PySem.Challenge.RW_evernear_k07_errors_stand_apart
set_option Elab.async false
set_option linter.all false
set_option maxRecDepth 100000
set_option maxHeartbeats 4000000
set_option autoImplicit false
namespace Dn
open PySem PySem.Spec L2
/-- a list that is new: not there at the entry, and tracked as a list -/
def Nw (H0 F : Hp) (n : Bool) (a : Addr) (xs : List V) : Prop := n = true → H0 a = none ∧ F a = some (.lst xs)
/-- new: neither there at the entry nor untracked -/
def Nd (H0 F : Hp) (n : Bool) (a : Addr) : Prop := n = true → H0 a = none ∧ F a ≠ none
def kD : Key → PyData
  | .inl i => .int i
  | .inr x => .str x
/-- an error of the program, held as a value: the address of its class, its fields -/
def encX (C : Addr) (fs : List (Str × Int)) : PyData := .dict ((.int 2, .int (C : Nat)) :: fs.map fun p => (.str p.1, .int p.2))
/-- its dict, locked -/
def DX (F : Hp) (dd : Option Addr) (fs : List (Str × Int)) : Prop := match dd with
  | none => fs = []
  | some dx => ∃ od, F dx = some (.frz od (exd dx (fs.map fun p => (p.1, V.int p.2))))
theorem DX.to {F F' : Hp} (e : ∀ a o, F a = some o → F' a = some o) {dd : Option Addr} {fs : List (Str × Int)} (h : DX F dd fs) : DX F' dd fs := by
  cases dd with
  | none => exact h
  | some dx =>
    obtain ⟨od, h⟩ := h
    exact ⟨od, e _ _ h⟩
mutual
inductive Is (K : PySem.W.Frag) (H0 : Hp) (n : Bool) (F : Hp) : V → PyData → Prop
  | non : Is K H0 n F .non .none
  | bl (b : Bool) : Is K H0 n F (.bl b) (.bool b)
  | int (i : Int) : Is K H0 n F (.int i) (.int i)
  | str (x : Str) : Is K H0 n F (.str x) (.str x)
  | lst {a : Addr} {xs : List V} {ds : List PyData} : SqL K F a xs → Nw H0 F n a xs → IsA K H0 n F xs ds → Is K H0 n F (.ref a) (.list ds)
  | tup {a : Addr} {xs : List V} {ds : List PyData} : F a = some (.tup xs) → IsA K H0 n F xs ds → Is K H0 n F (.ref a) (.tuple ds)
  | dk {a : Addr} {kvs : List (Key × V)} {ds : List PyData} : Rd F a (.dK kvs) → Nd H0 F n a → IsA K H0 n F (kvs.map (·.2)) ds → Is K H0 n F (.ref a) (.dict ((.bool false, .none) :: (kvs.map fun p => kD p.1).zip ds))
  | dt {a : Addr} {kvs : List (List Key × V)} {ds : List PyData} : Rd F a (.dT kvs) → Nd H0 F n a → IsA K H0 n F (kvs.map (·.2)) ds → Is K H0 n F (.ref a) (.dict ((.bool true, .none) :: (kvs.map fun p => PyData.tuple (p.1.map kD)).zip ds))
  | dl {a : Addr} {o : Obj} {kvs : List (List Key × V)} {ds : List PyData} : F a = some (.frz o (.dT kvs)) → Nd H0 F n a → IsA K H0 n F (kvs.map (·.2)) ds → Is K H0 n F (.ref a) (.dict ((.int 1, .none) :: (kvs.map fun p => PyData.tuple (p.1.map kD)).zip ds))
  | exc {a C : Addr} {oe : Obj} {φ : Heap → Prop} {fs : List (Str × Int)} : F a = some (.frz oe (.ext φ)) → oe.cls = .ref C → (∃ vs, oe.data = .fields vs) → DX F oe.dict fs → Is K H0 n F (.ref a) (encX C fs)
inductive IsA (K : PySem.W.Frag) (H0 : Hp) (n : Bool) (F : Hp) : List V → List PyData → Prop
  | nil : IsA K H0 n F [] []
  | cons {v : V} {vs : List V} {d : PyData} {ds : List PyData} : Is K H0 n F v d → IsA K H0 n F vs ds → IsA K H0 n F (v :: vs) (d :: ds)
end
section
variable {K : PySem.W.Frag} {H0 H0' F F' H H' : Hp} {n m : Bool}
theorem same_rd {a : Addr} {u : HO} (e : Same H H') (h : Rd H a u) : Rd H' a u := by
  rcases h with h | ⟨o, h⟩
  · exact .inl (e _ _ h)
  · exact .inr ⟨o, e _ _ h⟩
theorem same_t {a : Addr} {xs : List V} (e : Same H H') (h : SqT K H a xs) : SqT K H' a xs := by
  rcases h with h | h
  · exact .inl (same_rd e h)
  · exact .inr h
theorem same_new {p : Addr} {o : HO} (h : H p = none) : Same H (upd H p o) := fun b x e => by
  rw [upd_ne (ne_of_none e h)]
  exact e
theorem same_ne {a : Addr} (e : Same H H') (h : H a ≠ none) : H' a ≠ none := by
  cases q : H a with
  | none => exact absurd q h
  | some o => rw [e _ _ q]; exact fun z => nomatch z
theorem same_none {a : Addr} (e : Same H H') (h : H' a = none) : H a = none := Same.free e h
/-- what changes where data are said of a greater heap, an elder entry, with less newness -/
structure Le (H0 F : Hp) (n : Bool) (H0' F' : Hp) (n' : Bool) : Prop where
  same : Same F F'
  flag : n' = true → n = true
  old : n' = true → ∀ a, F a ≠ none → H0 a = none → H0' a = none
theorem some_ne {H : Hp} {a : Addr} {o : HO} (h : H a = some o) : H a ≠ none := fun z => by rw [h] at z; cases z
theorem Le.nw {n' : Bool} (l : Le H0 F n H0' F' n') {a : Addr} {xs : List V} (h : Nw H0 F n a xs) : Nw H0' F' n' a xs := fun e => by
  obtain ⟨h1, h2⟩ := h (l.flag e)
  exact ⟨l.old e a (some_ne h2) h1, l.same _ _ h2⟩
theorem Le.nd {n' : Bool} (l : Le H0 F n H0' F' n') {a : Addr} (h : Nd H0 F n a) : Nd H0' F' n' a := fun e =>
  ⟨l.old e a (h (l.flag e)).2 (h (l.flag e)).1, same_ne l.same (h (l.flag e)).2⟩
mutual
theorem Is.le {n' : Bool} (l : Le H0 F n H0' F' n') : ∀ {v : V} {d : PyData}, Is K H0 n F v d → Is K H0' n' F' v d
  | _, _, .non => .non
  | _, _, .bl b => .bl b
  | _, _, .int i => .int i
  | _, _, .str x => .str x
  | _, _, .lst h w a => .lst (Same.seq l.same h) (l.nw w) (IsA.le l a)
  | _, _, .tup h a => .tup (l.same _ _ h) (IsA.le l a)
  | _, _, .dk h w a => .dk (same_rd l.same h) (l.nd w) (IsA.le l a)
  | _, _, .dt h w a => .dt (same_rd l.same h) (l.nd w) (IsA.le l a)
  | _, _, .dl h w a => .dl (l.same _ _ h) (l.nd w) (IsA.le l a)
  | _, _, .exc h c d x => .exc (l.same _ _ h) c d (x.to l.same)
theorem IsA.le {n' : Bool} (l : Le H0 F n H0' F' n') : ∀ {vs : List V} {ds : List PyData}, IsA K H0 n F vs ds → IsA K H0' n' F' vs ds
  | _, _, .nil => .nil
  | _, _, .cons h t => .cons (Is.le l h) (IsA.le l t)
end
theorem Le.to (e : Same F F') : Le H0 F n H0 F' n := ⟨e, id, fun _ _ _ h => h⟩
theorem Le.weak (e : Same F F') : Le H0 F n H0' F' false := ⟨e, (fun h => nomatch h), (fun h => nomatch h)⟩
theorem Is.to {v : V} {d : PyData} (h : Is K H0 n F v d) (e : Same F F') : Is K H0 n F' v d := h.le (.to e)
theorem IsA.to {v : List V} {d : List PyData} (h : IsA K H0 n F v d) (e : Same F F') : IsA K H0 n F' v d := h.le (.to e)
theorem Is.weak {v : V} {d : PyData} (h : Is K H0 n F v d) (e : Same F F') : Is K H0' false F' v d := h.le (.weak e)
theorem IsA.weak {v : List V} {d : List PyData} (h : IsA K H0 n F v d) (e : Same F F') : IsA K H0' false F' v d := h.le (.weak e)
theorem le_and {a b : Bool} (e : Same F F') : Le H0 F a H0 F' (a && b) := ⟨e, fun h => (Bool.and_eq_true_iff.mp h).1, fun _ _ _ h => h⟩
theorem le_and' {a b : Bool} (e : Same F F') : Le H0 F b H0 F' (a && b) := ⟨e, fun h => (Bool.and_eq_true_iff.mp h).2, fun _ _ _ h => h⟩
/-- no list and no dict lies in it -/
def atom : PyData → Bool
  | .list _ => false
  | .tuple _ => false
  | .dict _ => false
  | _ => true
theorem Is.atom {v : V} {d : PyData} (h : Is K H0 n F v d) (ha : atom d = true) : Is K H0' m F' v d := by
  cases h with
  | non => exact .non
  | bl b => exact .bl b
  | int i => exact .int i
  | str x => exact .str x
  | lst _ _ _ => exact nomatch ha
  | tup _ _ => exact nomatch ha
  | dk _ _ _ => exact nomatch ha
  | dt _ _ _ => exact nomatch ha
  | dl _ _ _ => exact nomatch ha
  | exc _ _ _ _ => exact nomatch ha
theorem Is.orAtom {v : V} {d : PyData} (h : Is K H0 n F v d) (e : Same F F') : Is K H0 (n || Dn.atom d) F' v d := by
  cases q : Dn.atom d with
  | true => exact h.atom q
  | false => rw [Bool.or_false]; exact h.to e
theorem IsA.length {vs : List V} {ds : List PyData} (h : IsA K H0 n F vs ds) : vs.length = ds.length := by
  induction vs generalizing ds with
  | nil => cases h; rfl
  | cons v vs ih => cases h with | cons _ t => simp [ih t]
theorem IsA.get : ∀ {vs : List V} {ds : List PyData} {i : Nat} {d : PyData}, IsA K H0 n F vs ds → ds[i]? = some d → ∃ v, vs[i]? = some v ∧ Is K H0 n F v d
  | _, _, _, _, .nil, e => by simp at e
  | _, _, 0, _, .cons h _, e => by simp at e; subst e; exact ⟨_, rfl, h⟩
  | _, _, i + 1, _, .cons _ t, e => by
    obtain ⟨v, h1, h2⟩ := IsA.get (i := i) t (by simpa using e)
    exact ⟨v, by simpa using h1, h2⟩
theorem IsA.getV : ∀ {vs : List V} {ds : List PyData} {i : Nat} {v : V}, IsA K H0 n F vs ds → vs[i]? = some v → ∃ d, ds[i]? = some d ∧ Is K H0 n F v d
  | _, _, _, _, .nil, e => by simp at e
  | _, _, 0, _, .cons h _, e => by simp at e; subst e; exact ⟨_, rfl, h⟩
  | _, _, i + 1, _, .cons _ t, e => by
    obtain ⟨v, h1, h2⟩ := IsA.getV (i := i) t (by simpa using e)
    exact ⟨v, by simpa using h1, h2⟩
theorem IsA.append : ∀ {vs ws : List V} {ds es : List PyData}, IsA K H0 n F vs ds → IsA K H0 n F ws es → IsA K H0 n F (vs ++ ws) (ds ++ es)
  | _, _, _, _, .nil, h => h
  | _, _, _, _, .cons h t, h' => .cons h (IsA.append t h')
theorem IsA.take : ∀ {vs : List V} {ds : List PyData} (k : Nat), IsA K H0 n F vs ds → IsA K H0 n F (vs.take k) (ds.take k)
  | _, _, 0, _ => .nil
  | _, _, _ + 1, .nil => .nil
  | _, _, k + 1, .cons h t => .cons h (IsA.take k t)
theorem IsA.drop : ∀ {vs : List V} {ds : List PyData} (k : Nat), IsA K H0 n F vs ds → IsA K H0 n F (vs.drop k) (ds.drop k)
  | _, _, 0, h => h
  | _, _, _ + 1, .nil => .nil
  | _, _, k + 1, .cons _ t => IsA.drop k t
theorem IsA.set {v : V} {d : PyData} (h : Is K H0 n F v d) : ∀ {vs : List V} {ds : List PyData} (k : Nat), IsA K H0 n F vs ds → IsA K H0 n F (vs.set k v) (ds.set k d)
  | _, _, _, .nil => .nil
  | _, _, 0, .cons _ t => .cons h t
  | _, _, k + 1, .cons q t => .cons q (IsA.set h k t)
theorem IsA.ints : ∀ ns : List Int, IsA K H0 n F (ns.map V.int) (ns.map PyData.int)
  | [] => .nil
  | _ :: ns => .cons (.int _) (IsA.ints ns)
end
def encT (k : List Key) : PyData := .tuple (k.map kD)
/-- a dict's entries -/
inductive Dr (K : PySem.W.Frag) (H0 F : Hp) : List (List Key × V) → List (List Key × PyData) → Prop
  | nil : Dr K H0 F [] []
  | cons {k : List Key} {v : V} {d : PyData} {r : List (List Key × V)} {q : List (List Key × PyData)} : Is K H0 false F v d → Dr K H0 F r q → Dr K H0 F ((k, v) :: r) ((k, d) :: q)
def dD (q : List (List Key × PyData)) : PyData := .dict ((.bool true, .none) :: q.map fun p => (encT p.1, p.2))
/-- a dict that is locked for good -/
def dL (q : List (List Key × PyData)) : PyData := .dict ((.int 1, .none) :: q.map fun p => (encT p.1, p.2))
section
variable {K : PySem.W.Frag} {H0 F F' H : Hp} {n : Bool}
theorem Dr.to : ∀ {r : List (List Key × V)} {q : List (List Key × PyData)}, Dr K H0 F r q → Same F F' → Dr K H0 F' r q
  | _, _, .nil, _ => .nil
  | _, _, .cons h t, e => .cons (h.to e) (t.to e)
/-- an entry of a dict is of any entry heap -/
theorem Dr.old {H0' : Hp} : ∀ {r : List (List Key × V)} {q : List (List Key × PyData)}, Dr K H0 F r q → Dr K H0' F r q
  | _, _, .nil => .nil
  | _, _, .cons h t => .cons (h.weak (Same.refl F)) t.old
theorem Dr.isA : ∀ {r : List (List Key × V)} {q : List (List Key × PyData)}, Dr K H0 F r q → IsA K H0 false F (r.map (·.2)) (q.map (·.2))
  | _, _, .nil => .nil
  | _, _, .cons h t => .cons h t.isA
theorem Dr.zip : ∀ {r : List (List Key × V)} {q : List (List Key × PyData)}, Dr K H0 F r q → (r.map fun p => PyData.tuple (p.1.map kD)).zip (q.map (·.2)) = q.map fun p => (encT p.1, p.2)
  | _, _, .nil => rfl
  | _, _, .cons _ t => by simp only [List.map_cons, List.zip_cons_cons]; rw [t.zip]; rfl
theorem Dr.is {a : Addr} {r : List (List Key × V)} {q : List (List Key × PyData)} (h : Dr K H0 F r q) (e : Rd F a (.dT r)) : Is K H0 false F (.ref a) (dD q) := by
  have := Is.dt (K := K) (H0 := H0) (n := false) e (fun z => nomatch z) h.isA
  rw [h.zip] at this
  exact this
end
inductive Sl where
  /-- shared: never changed any more -/
  | sh (n : Bool) (d : PyData)
  /-- a list that this slot alone holds -/
  | ow (n : Bool) (ds : List PyData)
  /-- something new, with all its lists, that this slot alone holds -/
  | rg (d : PyData)
  /-- a list that this slot alone holds, with all the new lists in it -/
  | rl (ds : List PyData)
  /-- a dict with tuples as keys, that this slot alone holds -/
  | od (q : List (List Key × PyData))
abbrev Env := List (Option Sl)
def Sl.data : Sl → PyData
  | .sh _ d => d
  | .ow _ ds => .list ds
  | .rg d => d
  | .rl ds => .list ds
  | .od q => dD q
def Sl.flag : Sl → Bool
  | .sh n _ => n
  | .ow n _ => n
  | .rg _ => true
  | .rl _ => true
  | .od _ => false
/-- fp: the objects that this slot alone holds -/
def SlIs (K : PySem.W.Frag) (H0 F H : Hp) (fp : Addr → Prop) (v : V) : Sl → Prop
  | .sh n d => Is K H0 n F v d
  | .ow n ds => ∃ p xs, v = .ref p ∧ H p = some (.lst xs) ∧ fp p ∧ IsA K H0 n F xs ds
  | .rg d => ∃ G, Same F G ∧ Same G H ∧ (∀ a, G a ≠ none → F a ≠ none ∨ fp a) ∧ Is K F true G v d
  | .rl ds => ∃ p xs G, v = .ref p ∧ H p = some (.lst xs) ∧ fp p ∧ G p = none ∧ Same F G ∧ Same G H ∧ (∀ a, G a ≠ none → F a ≠ none ∨ fp a) ∧ IsA K F true G xs ds
  | .od q => ∃ p r, v = .ref p ∧ H p = some (.dT r) ∧ fp p ∧ Dr K H0 F r q
structure RelF (K : PySem.W.Frag) (H0 F0 : Hp) (env : Env) (σ : St) (F H : Hp) (fp : Nat → Addr → Prop) : Prop where
  fz : Same F H
  base : Same H0 H
  len : σ.length = env.length
  sl : ∀ i s, env[i]? = some (some s) → ∃ v, σ[i]? = some (some v) ∧ SlIs K H0 F H (fp i) v s
  dis : ∀ i j a, fp i a → fp j a → i = j
  out : ∀ i a, fp i a → F a = none ∧ H0 a = none ∧ H a ≠ none
  new : ∀ a, F a ≠ none → F0 a ≠ none ∨ H0 a = none
  f0 : Same F0 F
def Rel (K : PySem.W.Frag) (H0 F0 : Hp) (env : Env) (σ : St) (F H : Hp) : Prop := ∃ fp, RelF K H0 F0 env σ F H fp
def uni (F G : Hp) : Hp := fun a => match F a with
  | some o => some o
  | none => G a
section
variable {K : PySem.W.Frag} {H0 F0 F F' G H H' : Hp} {env : Env} {σ : St} {fp : Nat → Addr → Prop}
theorem uni_l : Same F (uni F G) := fun a o e => by unfold uni; rw [e]
theorem uni_h (h1 : Same F H) (h2 : Same G H) : Same (uni F G) H := fun a o e => by
  unfold uni at e
  cases q : F a with
  | some u => rw [q] at e; cases e; exact h1 _ _ q
  | none => rw [q] at e; exact h2 _ _ e
theorem uni_r (h1 : Same F H) (h2 : Same G H) : Same G (uni F G) := fun a o e => by
  unfold uni
  cases q : F a with
  | some u =>
    have e1 := h1 _ _ q
    rw [h2 _ _ e] at e1
    exact e1.symm
  | none => exact e
theorem uni_none {a : Addr} (h : uni F G a ≠ none) : F a ≠ none ∨ G a ≠ none := by
  unfold uni at h
  cases q : F a with
  | some u => exact .inl fun z => nomatch z
  | none => rw [q] at h; exact .inr h
/-- new data told over more that is shared -/
theorem grow_key {fp : Addr → Prop} (ho : ∀ a, fp a → F' a = none) (h3 : ∀ a, G a ≠ none → F a ≠ none ∨ fp a) : ∀ a, F a = none → G a ≠ none → F' a = none := fun a z1 z2 => by
  rcases h3 a z2 with y | y
  · exact absurd z1 y
  · exact ho a y
mutual
theorem grow_is {fp : Addr → Prop} {U : Hp} (ho : ∀ a, fp a → F' a = none) (h3 : ∀ a, G a ≠ none → F a ≠ none ∨ fp a) (seq : Same G U) : ∀ {v : V} {d : PyData}, Is K F true G v d → Is K F' true U v d
  | _, _, .non => .non
  | _, _, .bl b => .bl b
  | _, _, .int i => .int i
  | _, _, .str x => .str x
  | _, _, .lst h w a => .lst (Same.seq seq h) (fun _ => ⟨grow_key ho h3 _ (w rfl).1 (some_ne (w rfl).2), seq _ _ (w rfl).2⟩) (grow_isA ho h3 seq a)
  | _, _, .tup h a => .tup (seq _ _ h) (grow_isA ho h3 seq a)
  | _, _, .dk h w a => .dk (same_rd seq h) (fun _ => ⟨grow_key ho h3 _ (w rfl).1 (w rfl).2, same_ne seq (w rfl).2⟩) (grow_isA ho h3 seq a)
  | _, _, .dt h w a => .dt (same_rd seq h) (fun _ => ⟨grow_key ho h3 _ (w rfl).1 (w rfl).2, same_ne seq (w rfl).2⟩) (grow_isA ho h3 seq a)
  | _, _, .dl h w a => .dl (seq _ _ h) (fun _ => ⟨grow_key ho h3 _ (w rfl).1 (w rfl).2, same_ne seq (w rfl).2⟩) (grow_isA ho h3 seq a)
  | _, _, .exc h c d x => .exc (seq _ _ h) c d (x.to seq)
theorem grow_isA {fp : Addr → Prop} {U : Hp} (ho : ∀ a, fp a → F' a = none) (h3 : ∀ a, G a ≠ none → F a ≠ none ∨ fp a) (seq : Same G U) : ∀ {v : List V} {d : List PyData}, IsA K F true G v d → IsA K F' true U v d
  | _, _, .nil => .nil
  | _, _, .cons h t => .cons (grow_is ho h3 seq h) (grow_isA ho h3 seq t)
end
/-- a greater heap, more that is shared -/
theorem SlIs.grow {fp : Addr → Prop} {v : V} {s : Sl} (h : SlIs K H0 F H fp v s) (e : Same H H') (ef : Same F F') (fh : Same F' H') (ho : ∀ a, fp a → F' a = none) : SlIs K H0 F' H' fp v s := by
  cases s with
  | sh n d => exact Is.to (show Is K H0 n F v d from h) ef
  | ow n ds =>
    obtain ⟨p, xs, rfl, h1, h2, h3⟩ := h
    exact ⟨p, xs, rfl, e _ _ h1, h2, h3.to ef⟩
  | rg d =>
    obtain ⟨G, h1, h2, h3, h4⟩ := h
    have hg : Same G H' := h2.trans e
    refine ⟨uni F' G, uni_l, uni_h fh hg, fun a ha => ?_, grow_is ho h3 (uni_r fh hg) h4⟩
    rcases uni_none ha with z | z
    · exact .inl z
    · rcases h3 a z with z | z
      · exact .inl (same_ne ef z)
      · exact .inr z
  | rl ds =>
    obtain ⟨p, xs, G, rfl, k1, k2, k3, h1, h2, h3, h4⟩ := h
    have hg : Same G H' := h2.trans e
    refine ⟨p, xs, uni F' G, rfl, e _ _ k1, k2, ?_, uni_l, uni_h fh hg, fun a ha => ?_, grow_isA ho h3 (uni_r fh hg) h4⟩
    · unfold uni
      rw [ho p k2]; exact k3
    · rcases uni_none ha with z | z
      · exact .inl z
      · rcases h3 a z with z | z
        · exact .inl (same_ne ef z)
        · exact .inr z
  | od q =>
    obtain ⟨p, r, rfl, h1, h2, h3⟩ := h
    exact ⟨p, r, rfl, e _ _ h1, h2, h3.to ef⟩
theorem RelF.grow (r : RelF K H0 F0 env σ F H fp) (e : Same H H') (ef : Same F F') (fh : Same F' H') (ho : ∀ i a, fp i a → F' a = none) (hn : ∀ a, F' a ≠ none → F a ≠ none ∨ H0 a = none) : RelF K H0 F0 env σ F' H' fp where
  fz := fh
  base := r.base.trans e
  len := r.len
  sl := fun i s h => by
    obtain ⟨v, h1, h2⟩ := r.sl i s h
    exact ⟨v, h1, h2.grow e ef fh (ho i)⟩
  dis := r.dis
  out := fun i a h => ⟨ho i a h, (r.out i a h).2.1, same_ne e (r.out i a h).2.2⟩
  new := fun a z => by
    rcases hn a z with y | y
    · exact r.new a y
    · exact .inr y
  f0 := r.f0.trans ef
theorem Rel.fz (r : Rel K H0 F0 env σ F H) : Same F H := let ⟨_, h⟩ := r; h.fz
theorem Rel.base (r : Rel K H0 F0 env σ F H) : Same H0 H := let ⟨_, h⟩ := r; h.base
theorem Rel.len (r : Rel K H0 F0 env σ F H) : σ.length = env.length := let ⟨_, h⟩ := r; h.len
theorem Rel.heap (r : Rel K H0 F0 env σ F H) (e : Same H H') : Rel K H0 F0 env σ F H' := by
  obtain ⟨fp, r⟩ := r
  exact ⟨fp, r.grow e (Same.refl F) (r.fz.trans e) (fun i a h => (r.out i a h).1) fun _ z => .inl z⟩
/-- a new object is shared -/
theorem Rel.alloc {p : Addr} {o : HO} (r : Rel K H0 F0 env σ F H) (hp : H p = none) : Rel K H0 F0 env σ (upd F p o) (upd H p o) := by
  obtain ⟨fp, r⟩ := r
  have fp0 : F p = none := same_none r.fz hp
  refine ⟨fp, r.grow (same_new hp) (same_new fp0) (fun a u e => ?_) (fun i a h => ?_) fun a z => ?_⟩
  · by_cases z : a = p
    · subst z; rw [upd_same] at e ⊢; exact e
    · rw [upd_ne z] at e ⊢; exact r.fz _ _ e
  · have z : a ≠ p := fun z => by subst z; exact (r.out i a h).2.2 hp
    rw [upd_ne z]; exact (r.out i a h).1
  · by_cases y : a = p
    · subst y; exact .inr (same_none r.base hp)
    · rw [upd_ne y] at z; exact .inl z
theorem get_app {α : Type} {l : List α} {x : α} {i : Nat} {y : α} (h : (l ++ [x])[i]? = some y) : l[i]? = some y ∨ (i = l.length ∧ x = y) := by
  by_cases z : i < l.length
  · rw [List.getElem?_append_left z] at h; exact .inl h
  · rw [List.getElem?_append_right (by omega)] at h
    by_cases w : i = l.length
    · subst w; simp at h; exact .inr ⟨rfl, h⟩
    · have : i - l.length ≠ 0 := by omega
      cases q : i - l.length with
      | zero => exact absurd q this
      | succ k => rw [q] at h; simp at h
theorem app_get {α : Type} {l : List α} {x : α} : (l ++ [x])[l.length]? = some x := by simp
theorem app_left {α : Type} {l : List α} {x y : α} {i : Nat} (h : l[i]? = some y) : (l ++ [x])[i]? = some y := by
  rw [List.getElem?_append_left (List.getElem?_eq_some_iff.mp h).1]; exact h
/-- one more slot, with its own objects -/
theorem RelF.push {v : V} {s : Sl} {g : Addr → Prop} (r : RelF K H0 F0 env σ F H fp) (h : SlIs K H0 F H g v s) (hd : ∀ i a, i < env.length → fp i a → ¬ g a) (ho : ∀ a, g a → F a = none ∧ H0 a = none ∧ H a ≠ none) :
    RelF K H0 F0 (env ++ [some s]) (σ ++ [some v]) F H (fun i a => (i < env.length ∧ fp i a) ∨ (i = env.length ∧ g a)) where
  fz := r.fz
  base := r.base
  len := by simp [r.len]
  sl := fun i t q => by
    rcases get_app q with q | ⟨q1, q2⟩
    · have hi : i < env.length := (List.getElem?_eq_some_iff.mp q).1
      obtain ⟨u, h1, h2⟩ := r.sl i t q
      refine ⟨u, app_left h1, ?_⟩
      have e : (fun a => (i < env.length ∧ fp i a) ∨ (i = env.length ∧ g a)) = fp i := by
        funext a
        have : i ≠ env.length := by omega
        simp [hi, this]
      rw [e]; exact h2
    · cases q2
      subst q1
      refine ⟨v, by rw [← r.len]; exact app_get, ?_⟩
      have e : (fun a => (env.length < env.length ∧ fp env.length a) ∨ (env.length = env.length ∧ g a)) = g := by
        funext a; simp
      rw [e]; exact h
  dis := fun i j a h1 h2 => by
    rcases h1 with ⟨i1, h1⟩ | ⟨i1, h1⟩ <;> rcases h2 with ⟨i2, h2⟩ | ⟨i2, h2⟩
    · exact r.dis i j a h1 h2
    · exact absurd h2 (hd i a i1 h1)
    · exact absurd h1 (hd j a i2 h2)
    · omega
  out := fun i a h => by
    rcases h with ⟨_, h⟩ | ⟨_, h⟩
    · exact r.out i a h
    · exact ho a h
  new := r.new
  f0 := r.f0
/-- the slots told otherwise: each as it was, or shared, or unknown -/
theorem RelF.sub {env' : Env} {σ' : St} (r : RelF K H0 F0 env σ F H fp) (hl : σ'.length = env'.length)
    (h : ∀ (i : Nat) (s : Sl), env'[i]? = some (some s) → (env[i]? = some (some s) ∧ σ'[i]? = σ[i]?) ∨ (∃ v n d, s = .sh n d ∧ σ'[i]? = some (some v) ∧ Is K H0 n F v d)) : RelF K H0 F0 env' σ' F H fp where
  fz := r.fz
  base := r.base
  len := hl
  sl := fun i s q => by
    rcases h i s q with ⟨h1, h2⟩ | ⟨v, n, d, rfl, h1, h2⟩
    · obtain ⟨v, h3, h4⟩ := r.sl i s h1
      exact ⟨v, h2.trans h3, h4⟩
    · exact ⟨v, h1, h2⟩
  dis := r.dis
  out := r.out
  new := r.new
  f0 := r.f0
theorem Rel.sub {env' : Env} {σ' : St} (r : Rel K H0 F0 env σ F H) (hl : σ'.length = env'.length)
    (h : ∀ (i : Nat) (s : Sl), env'[i]? = some (some s) → (env[i]? = some (some s) ∧ σ'[i]? = σ[i]?) ∨ (∃ v n d, s = .sh n d ∧ σ'[i]? = some (some v) ∧ Is K H0 n F v d)) : Rel K H0 F0 env' σ' F H := by
  obtain ⟨fp, r⟩ := r
  exact ⟨fp, r.sub hl h⟩
theorem Rel.pop {s : Option Sl} {v : Option V} (r : Rel K H0 F0 (env ++ [s]) (σ ++ [v]) F H) : Rel K H0 F0 env σ F H := by
  have hl : σ.length = env.length := by have := r.len; simpa using this
  refine r.sub hl fun i t q => .inl ⟨app_left q, ?_⟩
  have hi : i < env.length := (List.getElem?_eq_some_iff.mp q).1
  rw [List.getElem?_append_left (by omega)]
/-- the slot's own objects become shared -/
theorem Rel.share {i : Nat} {s : Sl} (r : Rel K H0 F0 env σ F H) (h : env[i]? = some (some s)) :
    ∃ F' v, Same F F' ∧ Rel K H0 F0 (env.set i (some (.sh s.flag s.data))) σ F' H ∧ σ[i]? = some (some v) ∧ Is K H0 s.flag F' v s.data := by
  obtain ⟨fp, r⟩ := r
  obtain ⟨v, hv, hs⟩ := r.sl i s h
  have hi : i < env.length := (List.getElem?_eq_some_iff.mp h).1
  -- without the slot's own
  have fin : ∀ F', Same F F' → Same F' H → (∀ a, F' a ≠ none → F a ≠ none ∨ fp i a) → Is K H0 s.flag F' v s.data →
      ∃ F' v, Same F F' ∧ Rel K H0 F0 (env.set i (some (.sh s.flag s.data))) σ F' H ∧ σ[i]? = some (some v) ∧ Is K H0 s.flag F' v s.data := fun F' e1 e2 e3 his => by
    refine ⟨F', v, e1, ⟨fun j a => j ≠ i ∧ fp j a, ⟨e2, r.base, by simpa using r.len, fun j t q => ?_, fun j k a h1 h2 => r.dis j k a h1.2 h2.2, fun j a h1 => ⟨?_, (r.out j a h1.2).2⟩, fun a z => ?_, r.f0.trans e1⟩⟩, hv, his⟩
    · by_cases z : j = i
      · subst z
        rw [List.getElem?_set_self hi] at q
        cases q
        exact ⟨v, hv, his⟩
      · rw [List.getElem?_set_ne (Ne.symm z)] at q
        obtain ⟨u, h1, h2⟩ := r.sl j t q
        have e : (fun a => j ≠ i ∧ fp j a) = fp j := by funext a; simp [z]
        rw [e]
        refine ⟨u, h1, h2.grow (Same.refl H) e1 e2 fun a ha => ?_⟩
        cases y : F' a with
        | none => rfl
        | some o =>
          rcases e3 a (by rw [y]; exact fun z => nomatch z) with x | x
          · exact absurd (r.out j a ha).1 x
          · exact absurd (r.dis j i a ha x) z
    · cases y : F' a with
      | none => rfl
      | some o =>
        rcases e3 a (by rw [y]; exact fun z => nomatch z) with x | x
        · exact absurd (r.out j a h1.2).1 x
        · exact absurd (r.dis j i a h1.2 x) h1.1
    · rcases e3 a z with x | x
      · exact r.new a x
      · exact .inr (r.out i a x).2.1
  cases s with
  | sh n d => exact fin F (Same.refl F) r.fz (fun a h => .inl h) hs
  | ow n ds =>
    obtain ⟨p, xs, rfl, h1, h2, h3⟩ := hs
    obtain ⟨o1, o2, _⟩ := r.out i p h2
    refine fin (upd F p (.lst xs)) (same_new o1) (fun a u e => ?_) (fun a e => ?_) (.lst (.inl (.inl upd_same)) (fun _ => ⟨o2, upd_same⟩) (h3.to (same_new o1)))
    · by_cases z : a = p
      · subst z; rw [upd_same] at e; cases e; exact h1
      · rw [upd_ne z] at e; exact r.fz _ _ e
    · by_cases z : a = p
      · subst z; exact .inr h2
      · rw [upd_ne z] at e; exact .inl e
  | rg d =>
    obtain ⟨G, h1, h2, h3, h4⟩ := hs
    exact fin G h1 h2 h3 (grow_is (fun a x => (r.out i a x).2.1) h3 (Same.refl G) h4)
  | rl ds =>
    obtain ⟨p, xs, G, rfl, k1, k2, k3, h1, h2, h3, h4⟩ := hs
    obtain ⟨o1, o2, _⟩ := r.out i p k2
    refine fin (upd G p (.lst xs)) (h1.trans (same_new k3)) (fun a u e => ?_) (fun a e => ?_) (.lst (.inl (.inl upd_same)) (fun _ => ⟨o2, upd_same⟩) (grow_isA (fun a x => (r.out i a x).2.1) h3 (same_new k3) h4))
    · by_cases z : a = p
      · subst z; rw [upd_same] at e; cases e; exact k1
      · rw [upd_ne z] at e; exact h2 _ _ e
    · by_cases z : a = p
      · subst z; exact .inr k2
      · rw [upd_ne z] at e; exact h3 a e
  | od q =>
    obtain ⟨p, xs, rfl, h1, h2, h3⟩ := hs
    obtain ⟨o1, o2, _⟩ := r.out i p h2
    refine fin (upd F p (.dT xs)) (same_new o1) (fun a u e => ?_) (fun a e => ?_) ((h3.to (same_new o1)).is (.inl upd_same))
    · by_cases z : a = p
      · subst z; rw [upd_same] at e; cases e; exact h1
      · rw [upd_ne z] at e; exact r.fz _ _ e
    · by_cases z : a = p
      · subst z; exact .inr h2
      · rw [upd_ne z] at e; exact .inl e
/-- a new list that nobody else holds -/
theorem Rel.allocO {p : Addr} {xs : List V} {ds : List PyData} {n : Bool} (r : Rel K H0 F0 env σ F H) (hp : H p = none) (h : IsA K H0 n F xs ds) : Rel K H0 F0 (env ++ [some (.ow n ds)]) (σ ++ [some (.ref p)]) F (upd H p (.lst xs)) := by
  have r1 := r.heap (same_new (o := .lst xs) hp)
  obtain ⟨fp, r0⟩ := r
  have r1 : RelF K H0 F0 env σ F (upd H p (.lst xs)) fp := r0.grow (same_new hp) (Same.refl F) (r0.fz.trans (same_new hp)) (fun i a h => (r0.out i a h).1) fun _ z => .inl z
  refine ⟨_, r1.push (g := fun a => a = p) ⟨p, xs, rfl, upd_same, rfl, h⟩ (fun i a _ ha z => ?_) fun a z => ?_⟩
  · have z : a = p := z
    subst z
    exact (r0.out i a ha).2.2 hp
  · have z : a = p := z
    subst z
    exact ⟨same_none r0.fz hp, same_none r0.base hp, by rw [upd_same]; exact fun z => nomatch z⟩
/-- a list that one slot holds is changed -/
theorem Rel.mut {i : Nat} {n m : Bool} {ds es : List PyData} {p : Addr} {ys : List V} (r : Rel K H0 F0 env σ F H) (h : env[i]? = some (some (.ow n ds))) (hp : σ[i]? = some (some (.ref p))) (h' : IsA K H0 m F ys es) :
    Rel K H0 F0 (env.set i (some (.ow m es))) σ F (upd H p (.lst ys)) ∧ ∃ xs, H p = some (.lst xs) ∧ IsA K H0 n F xs ds := by
  obtain ⟨fp, r⟩ := r
  obtain ⟨v, hv, hs⟩ := r.sl i _ h
  obtain ⟨q, xs, rfl, h1, h2, h3⟩ := hs
  rw [hp] at hv; cases hv
  have hi : i < env.length := (List.getElem?_eq_some_iff.mp h).1
  obtain ⟨o1, o2, o3⟩ := r.out i p h2
  refine ⟨⟨fp, ⟨fun a u e => ?_, fun a u e => ?_, by simpa using r.len, fun j t q => ?_, r.dis, fun j a ha => ⟨(r.out j a ha).1, (r.out j a ha).2.1, ?_⟩, r.new, r.f0⟩⟩, xs, h1, h3⟩
  · rw [upd_ne (ne_of_none e o1)]; exact r.fz _ _ e
  · rw [upd_ne (ne_of_none e o2)]; exact r.base _ _ e
  · by_cases z : j = i
    · subst z
      rw [List.getElem?_set_self hi] at q
      cases q
      exact ⟨_, hp, p, ys, rfl, upd_same, h2, h'⟩
    · rw [List.getElem?_set_ne (Ne.symm z)] at q
      obtain ⟨u, g1, g2⟩ := r.sl j t q
      refine ⟨u, g1, ?_⟩
      have apart : ∀ a, fp j a → a ≠ p := fun a ha e => by subst e; exact z (r.dis j i a ha h2)
      cases t with
      | sh n d => exact g2
      | ow n d =>
        obtain ⟨q, xs', rfl, k1, k2, k3⟩ := g2
        exact ⟨q, xs', rfl, by rw [upd_ne (apart q k2)]; exact k1, k2, k3⟩
      | rg d =>
        obtain ⟨G, k1, k2, k3, k4⟩ := g2
        refine ⟨G, k1, fun a u e => ?_, k3, k4⟩
        have : a ≠ p := fun y => by
          subst y
          rcases k3 a (by rw [e]; exact fun z => nomatch z) with x | x
          · exact x o1
          · exact apart a x rfl
        rw [upd_ne this]; exact k2 _ _ e
      | rl d =>
        obtain ⟨q, xs', G, rfl, l1, l2, l3, k1, k2, k3, k4⟩ := g2
        refine ⟨q, xs', G, rfl, by rw [upd_ne (apart q l2)]; exact l1, l2, l3, k1, fun a u e => ?_, k3, k4⟩
        have : a ≠ p := fun y => by
          subst y
          rcases k3 a (by rw [e]; exact fun z => nomatch z) with x | x
          · exact x o1
          · exact apart a x rfl
        rw [upd_ne this]; exact k2 _ _ e
      | od d =>
        obtain ⟨q, xs', rfl, k1, k2, k3⟩ := g2
        exact ⟨q, xs', rfl, by rw [upd_ne (apart q k2)]; exact k1, k2, k3⟩
  · by_cases y : a = p
    · subst y; rw [upd_same]; exact fun z => nomatch z
    · rw [upd_ne y]; exact (r.out j a ha).2.2
/-- what a slot alone holds is changed anyhow, the slot forgotten -/
theorem RelF.scratch {i : Nat} {H' : Hp} (r : RelF K H0 F0 env σ F H fp) (h : ∀ a, ¬ fp i a → H' a = H a) : RelF K H0 F0 (env.set i none) σ F H' (fun j a => j ≠ i ∧ fp j a) where
  fz := fun a u e => by rw [h a fun z => by rw [(r.out i a z).1] at e; cases e]; exact r.fz a u e
  base := fun a u e => by rw [h a fun z => by rw [(r.out i a z).2.1] at e; cases e]; exact r.base a u e
  len := by simpa using r.len
  sl := fun j t q => by
    by_cases z : j = i
    · subst z
      by_cases y : j < env.length
      · rw [List.getElem?_set_self y] at q; cases q
      · rw [List.getElem?_eq_none (by simpa using y)] at q; cases q
    · rw [List.getElem?_set_ne (Ne.symm z)] at q
      obtain ⟨u, g1, g2⟩ := r.sl j t q
      refine ⟨u, g1, ?_⟩
      have ap : ∀ a, fp j a → ¬ fp i a := fun a x y => z (r.dis j i a x y)
      have e : (fun a => j ≠ i ∧ fp j a) = fp j := by funext a; simp [z]
      rw [e]
      have gh : ∀ {G : Hp}, Same G H → (∀ a, G a ≠ none → F a ≠ none ∨ fp j a) → Same G H' := fun {G} s1 s2 a u x => by
        rw [h a fun y => ?_]
        · exact s1 a u x
        · rcases s2 a (some_ne x) with w | w
          · exact w (r.out i a y).1
          · exact ap a w y
      cases t with
      | sh n d => exact g2
      | ow n d =>
        obtain ⟨q, xs', rfl, k1, k2, k3⟩ := g2
        exact ⟨q, xs', rfl, by rw [h q (ap q k2)]; exact k1, k2, k3⟩
      | rg d =>
        obtain ⟨G, k1, k2, k3, k4⟩ := g2
        exact ⟨G, k1, gh k2 k3, k3, k4⟩
      | rl d =>
        obtain ⟨q, xs', G, rfl, l1, l2, l3, k1, k2, k3, k4⟩ := g2
        exact ⟨q, xs', G, rfl, by rw [h q (ap q l2)]; exact l1, l2, l3, k1, gh k2 k3, k3, k4⟩
      | od d =>
        obtain ⟨q, xs', rfl, k1, k2, k3⟩ := g2
        exact ⟨q, xs', rfl, by rw [h q (ap q k2)]; exact k1, k2, k3⟩
  dis := fun j k a h1 h2 => r.dis j k a h1.2 h2.2
  out := fun j a h1 => ⟨(r.out j a h1.2).1, (r.out j a h1.2).2.1, by
    rw [h a fun y => h1.1 (r.dis j i a h1.2 y)]; exact (r.out j a h1.2).2.2⟩
  new := r.new
  f0 := r.f0
end
end Dn
namespace Dn
open PySem PySem.Spec L2
structure Exn where
  cls : Str
  fs : List (Str × V)
inductive Rs (α : Type) where
  | bad
  | ok (a : α)
  | ex (e : Env) (x : Exn)
def Rs.bind {α β : Type} (r : Rs α) (k : α → Rs β) : Rs β := match r with
  | .bad => .bad
  | .ok a => k a
  | .ex e x => .ex e x
@[simp] theorem Rs.bind_ok {α β : Type} (a : α) (k : α → Rs β) : (Rs.ok a).bind k = k a := rfl
@[simp] theorem Rs.bind_bad {α β : Type} (k : α → Rs β) : (Rs.bad).bind k = .bad := rfl
@[simp] theorem Rs.bind_ex {α β : Type} (e : Env) (x : Exn) (k : α → Rs β) : (Rs.ex e x : Rs α).bind k = .ex e x := rfl
def Rs.post {α : Type} (r : Rs α) (P : α → Prop) (E : Env → Exn → Prop) : Prop := match r with
  | .bad => False
  | .ok a => P a
  | .ex e x => E e x
theorem Rs.post_bind {α β : Type} {r : Rs α} {k : α → Rs β} {P : β → Prop} {E : Env → Exn → Prop} : (r.bind k).post P E ↔ r.post (fun a => (k a).post P E) E := by
  cases r <;> exact Iff.rfl
theorem Rs.post_mono {α : Type} {r : Rs α} {P P' : α → Prop} {E E' : Env → Exn → Prop} (h : r.post P E) (hp : ∀ a, P a → P' a) (he : ∀ e x, E e x → E' e x) : r.post P' E' := by
  cases r with
  | bad => exact h
  | ok a => exact hp a h
  | ex e x => exact he e x h
def grd {α : Type} (b : Bool) (r : Rs α) : Rs α := if b = true then r else .bad
@[simp] theorem grd_true {α : Type} (r : Rs α) : grd true r = r := rfl
theorem grd_post {α : Type} {b : Bool} {r : Rs α} {P : α → Prop} {E : Env → Exn → Prop} (h : (grd b r).post P E) : b = true ∧ r.post P E := by
  unfold grd at h
  by_cases q : b = true
  · rw [if_pos q] at h; exact ⟨q, h⟩
  · rw [if_neg q] at h; exact h.elim
/-- what an expression gives: something shared; a new list that nobody holds; the list of a slot -/
inductive R where
  | sh (n : Bool) (d : PyData)
  | nw (n : Bool) (ds : List PyData)
  | own (i : Nat)
abbrev Dv := Bool × PyData
abbrev FE := Env → Rs (Env × R)
abbrev FV := Env → Rs (Env × Dv)
abbrev FT := Env → Rs Bool
abbrev FA := Env → Rs (Env × List Dv)
section
variable {K : PySem.W.Frag} {H0 F0 F F' H H' : Hp} {env : Env} {σ : St}
def RelR (K : PySem.W.Frag) (H0 F0 : Hp) (env : Env) (σ : St) (F H : Hp) (v : V) : R → Prop
  | .sh n d => Rel K H0 F0 env σ F H ∧ Is K H0 n F v d
  | .nw n ds => Rel K H0 F0 (env ++ [some (.ow n ds)]) (σ ++ [some v]) F H
  | .own i => Rel K H0 F0 env σ F H ∧ σ[i]? = some (some v)
/-- as it may be looked at: shared, or a list of shared things -/
def Vw (K : PySem.W.Frag) (H0 F H : Hp) (v : V) (p : Dv) : Prop :=
  Is K H0 p.1 F v p.2 ∨ ∃ a xs ds, v = .ref a ∧ p.2 = .list ds ∧ H a = some (.lst xs) ∧ H0 a = none ∧ IsA K H0 p.1 F xs ds
theorem Vw.to {v : V} {p : Dv} (h : Vw K H0 F H v p) (e : Same F F') (e' : Same H H') : Vw K H0 F' H' v p := by
  rcases h with h | ⟨a, xs, ds, h1, h2, h3, h4, h5⟩
  · exact .inl (h.to e)
  · exact .inr ⟨a, xs, ds, h1, h2, e' _ _ h3, h4, h5.to e⟩
def IsV (K : PySem.W.Frag) (H0 F H : Hp) (v : V) (p : Dv) : Prop := Is K H0 p.1 F v p.2
inductive All2 {α β : Type} (P : α → β → Prop) : List α → List β → Prop
  | nil : All2 P [] []
  | cons {a : α} {b : β} {as : List α} {bs : List β} : P a b → All2 P as bs → All2 P (a :: as) (b :: bs)
theorem All2.mono {α β : Type} {P Q : α → β → Prop} (f : ∀ a b, P a b → Q a b) : ∀ {as : List α} {bs : List β}, All2 P as bs → All2 Q as bs
  | _, _, .nil => .nil
  | _, _, .cons h t => .cons (f _ _ h) (t.mono f)
/-- an exception as it lies -/
def exnIs (mg : Str → Option Value) (x : Exn) (cls : Value) (dO : Option Addr) (H : Hp) : Prop := mg x.cls = some cls ∧ (∃ C, cls = .ref C) ∧ match x.fs with
  | [] => dO = none
  | _ :: _ => ∃ d, dO = some d ∧ H d = some (.xd x.fs)
def ExP (K : PySem.W.Frag) (mg : Str → Option Value) (W : WX) (H0 F0 F H : Hp) (σ : St) (e : Env) (x : Exn) : Prop := ∀ cls dO F' H', Rel K H0 F0 e σ F' H' → Same H H' → Same F F' → exnIs mg x cls dO H' → W cls dO σ H'
theorem ExP.to {mg : Str → Option Value} {W : WX} {e : Env} {x : Exn} (h : ExP K mg W H0 F0 F H σ e x) (e1 : Same F F') (e2 : Same H H') : ExP K mg W H0 F0 F' H' σ e x := fun cls dO F2 H2 r a b q => h cls dO F2 H2 r (e2.trans a) (e1.trans b) q
def tE (K : PySem.W.Frag) (mg : Str → Option Value) (W : WX) (f : FE) : TE := fun σ H Q => ∃ H0 F0 F env, Rel K H0 F0 env σ F H ∧
  (f env).post (fun p => ∀ v F' H', RelR K H0 F0 p.1 σ F' H' v p.2 → Same H H' → Same F F' → Q v H') (ExP K mg W H0 F0 F H σ)
/-- to be looked at -/
def tV (K : PySem.W.Frag) (mg : Str → Option Value) (W : WX) (f : FV) : TE := fun σ H Q => ∃ H0 F0 F env, Rel K H0 F0 env σ F H ∧
  (f env).post (fun p => ∀ v F' H', Rel K H0 F0 p.1 σ F' H' → Vw K H0 F' H' v p.2 → Same H H' → Same F F' → Q v H') (ExP K mg W H0 F0 F H σ)
/-- to be kept -/
def tD (K : PySem.W.Frag) (mg : Str → Option Value) (W : WX) (f : FV) : TE := fun σ H Q => ∃ H0 F0 F env, Rel K H0 F0 env σ F H ∧
  (f env).post (fun p => ∀ v F' H', Rel K H0 F0 p.1 σ F' H' → Is K H0 p.2.1 F' v p.2.2 → Same H H' → Same F F' → Q v H') (ExP K mg W H0 F0 F H σ)
/-- a test leaves all as it was -/
def tT (K : PySem.W.Frag) (mg : Str → Option Value) (W : WX) (f : FT) : TT := fun σ H Q => ∃ H0 F0 F env, Rel K H0 F0 env σ F H ∧
  (f env).post (fun b => ∀ H', Rel K H0 F0 env σ F H' → Same H H' → Q b H') (ExP K mg W H0 F0 F H σ)
def tAV (K : PySem.W.Frag) (mg : Str → Option Value) (W : WX) (f : FA) : TA := fun σ H Q => ∃ H0 F0 F env, Rel K H0 F0 env σ F H ∧
  (f env).post (fun p => ∀ vs F' H', Rel K H0 F0 p.1 σ F' H' → All2 (Vw K H0 F' H') vs p.2 → Same H H' → Same F F' → Q vs H') (ExP K mg W H0 F0 F H σ)
def tAD (K : PySem.W.Frag) (mg : Str → Option Value) (W : WX) (f : FA) : TA := fun σ H Q => ∃ H0 F0 F env, Rel K H0 F0 env σ F H ∧
  (f env).post (fun p => ∀ vs F' H', Rel K H0 F0 p.1 σ F' H' → All2 (IsV K H0 F' H') vs p.2 → Same H H' → Same F F' → Q vs H') (ExP K mg W H0 F0 F H σ)
/-- look at it -/
def rd (f : FE) : FV := fun env => (f env).bind fun p => match p.2 with
  | .sh n d => .ok (p.1, (n, d))
  | .nw n ds => .ok (p.1, (n, .list ds))
  | .own i => match p.1[i]? with
    | some (some (.ow n ds)) => .ok (p.1, (n, .list ds))
    | _ => .bad
/-- keep it -/
def st (f : FE) : FV := fun env => (f env).bind fun p => match p.2 with
  | .sh n d => .ok (p.1, (n, d))
  | .nw n ds => .ok (p.1, (n, .list ds))
  | .own i => match p.1[i]? with
    | some (some s) => .ok (p.1.set i (some (.sh s.flag s.data)), (s.flag, s.data))
    | _ => .bad
theorem set_last {α : Type} (l : List α) (x y : α) : (l ++ [x]).set l.length y = l ++ [y] := by
  rw [List.set_append_right _ _ (Nat.le_refl _)]; simp
/-- a new list is shared -/
theorem share_new {n : Bool} {ds : List PyData} {v : V} (r : Rel K H0 F0 (env ++ [some (.ow n ds)]) (σ ++ [some v]) F H) : ∃ F', Same F F' ∧ Rel K H0 F0 env σ F' H ∧ Is K H0 n F' v (.list ds) := by
  obtain ⟨F', v', e, r', hv, hi⟩ := r.share (i := env.length) app_get
  rw [set_last] at r'
  have hl : σ.length = env.length := by have := r.len; simpa using this
  rw [← hl, app_get] at hv
  cases hv
  exact ⟨F', e, r'.pop, hi⟩
section
variable {mg : Str → Option Value} {W : WX} {f : FE} {Q : VK}
theorem tV_rd (h : tV K mg W (rd f) σ H Q) : tE K mg W f σ H Q := by
  obtain ⟨H0, F0, F, env, r, h⟩ := h
  refine ⟨H0, F0, F, env, r, ?_⟩
  unfold rd at h
  refine Rs.post_mono (Rs.post_bind.mp h) (fun p hp v F' H' hr e1 e2 => ?_) fun _ _ x => x
  obtain ⟨e, q⟩ := p
  cases q with
  | sh n d => exact hp v F' H' hr.1 (.inl hr.2) e1 e2
  | nw n ds =>
    obtain ⟨F2, e3, r2, i2⟩ := share_new hr
    exact hp v F2 H' r2 (.inl i2) e1 (e2.trans e3)
  | own i =>
    obtain ⟨hr, hv⟩ := hr
    dsimp only at hp
    split at hp
    · rename_i n ds q
      obtain ⟨fp, rf⟩ := id hr
      obtain ⟨u, hu, a, xs, rfl, k1, k2, k3⟩ := rf.sl i _ q
      rw [hv] at hu; cases hu
      exact hp _ F' H' hr (.inr ⟨a, xs, ds, rfl, rfl, k1, (rf.out i a k2).2.1, k3⟩) e1 e2
    · exact hp.elim
theorem tD_st (h : tD K mg W (st f) σ H Q) : tE K mg W f σ H Q := by
  obtain ⟨H0, F0, F, env, r, h⟩ := h
  refine ⟨H0, F0, F, env, r, ?_⟩
  unfold st at h
  refine Rs.post_mono (Rs.post_bind.mp h) (fun p hp v F' H' hr e1 e2 => ?_) fun _ _ x => x
  obtain ⟨e, q⟩ := p
  cases q with
  | sh n d => exact hp v F' H' hr.1 hr.2 e1 e2
  | nw n ds =>
    obtain ⟨F2, e3, r2, i2⟩ := share_new hr
    exact hp v F2 H' r2 i2 e1 (e2.trans e3)
  | own i =>
    obtain ⟨hr, hv⟩ := hr
    dsimp only at hp
    split at hp
    · rename_i s q
      obtain ⟨F2, u, e3, r2, hu, hi⟩ := hr.share q
      rw [hv] at hu; cases hu
      exact hp _ F2 H' r2 hi e1 (e2.trans e3)
    · exact hp.elim
end
structure Ext (F H F' H' : Hp) : Prop where
  f : Same F F'
  h : Same H H'
  fh : Same F' H'
  new : ∀ a, F' a ≠ none → F a ≠ none ∨ H a = none
theorem Ext.refl (h : Same F H) : Ext F H F H := ⟨Same.refl F, Same.refl H, h, fun _ z => .inl z⟩
theorem Ext.trans {F1 H1 F2 H2 : Hp} (a : Ext F H F1 H1) (b : Ext F1 H1 F2 H2) : Ext F H F2 H2 := ⟨a.f.trans b.f, a.h.trans b.h, b.fh, fun x z => by
  rcases b.new x z with y | y
  · exact a.new x y
  · exact .inr (same_none a.h y)⟩
theorem Ext.alloc {p : Addr} {o : HO} (h : Same F H) (hp : H p = none) : Ext F H (upd F p o) (upd H p o) := ⟨same_new (same_none h hp), same_new hp, fun a u e => by
  by_cases z : a = p
  · subst z; rw [upd_same] at e ⊢; exact e
  · rw [upd_ne z] at e ⊢; exact h _ _ e, fun a z => by
  by_cases y : a = p
  · subst y; exact .inr hp
  · rw [upd_ne y] at z; exact .inl z⟩
theorem Ext.allocH {p : Addr} {o : HO} (h : Same F H) (hp : H p = none) : Ext F H F (upd H p o) := ⟨Same.refl F, same_new hp, h.trans (same_new hp), fun _ z => .inl z⟩
theorem Rel.ext (r : Rel K H0 F0 env σ F H) (x : Ext F H F' H') : Rel K H0 F0 env σ F' H' := by
  obtain ⟨fp, r⟩ := r
  refine ⟨fp, r.grow x.h x.f x.fh (fun i a h => ?_) fun a z => (x.new a z).imp_right fun y => same_none r.base y⟩
  cases q : F' a with
  | none => rfl
  | some o =>
    rcases x.new a (by rw [q]; exact fun z => nomatch z) with z | z
    · exact absurd (r.out i a h).1 z
    · exact absurd z (r.out i a h).2.2
/-- what an operation gives; H: the heap ahead of it -/
def VRes (K : PySem.W.Frag) (H0 H F' H' : Hp) (v : V) : R → Prop
  | .sh n d => Is K H0 n F' v d
  | .nw n ds => ∃ p xs, v = .ref p ∧ H p = none ∧ F' p = none ∧ H' p = some (.lst xs) ∧ IsA K H0 n F' xs ds
  | .own _ => False
theorem VRes.rel {v : V} {q : R} (r : Rel K H0 F0 env σ F H) (x : Ext F H F' H') (h : VRes K H0 H F' H' v q) : RelR K H0 F0 env σ F' H' v q := by
  cases q with
  | sh n d => exact ⟨r.ext x, h⟩
  | nw n ds =>
    obtain ⟨p, xs, rfl, h1, h2, h3, h4⟩ := h
    obtain ⟨fp, r0⟩ := r
    have r1 : RelF K H0 F0 env σ F' H' fp := r0.grow x.h x.f x.fh (fun i a h => by
      cases q : F' a with
      | none => rfl
      | some o =>
        rcases x.new a (by rw [q]; exact fun z => nomatch z) with z | z
        · exact absurd (r0.out i a h).1 z
        · exact absurd z (r0.out i a h).2.2) fun a z => (x.new a z).imp_right fun y => same_none r0.base y
    refine ⟨_, r1.push (g := fun a => a = p) ⟨p, xs, rfl, h3, rfl, h4⟩ (fun i a _ ha z => ?_) fun a z => ?_⟩
    · have z : a = p := z
      subst z
      exact (r0.out i a ha).2.2 h1
    · have z : a = p := z
      subst z
      exact ⟨h2, same_none r0.base h1, by rw [h3]; exact fun z => nomatch z⟩
  | own i => exact h.elim
/-- an operation of two values, of a list of values -/
abbrev G2 := Dv → Dv → Rs R
abbrev G1 := Dv → Rs R
abbrev GN := List Dv → Rs R
def rG2 (K : PySem.W.Frag) (g : G2) : R2 := fun x y H Q => ∃ H0 F p q, Same F H ∧ Same H0 H ∧ Vw K H0 F H x p ∧ Vw K H0 F H y q ∧ (g p q).post (fun res => ∀ v F' H', Ext F H F' H' → VRes K H0 H F' H' v res → Q v H') (fun _ _ => False)
def rG1 (K : PySem.W.Frag) (g : G1) : V → Hp → VK → Prop := fun x H Q => ∃ H0 F p, Same F H ∧ Same H0 H ∧ Vw K H0 F H x p ∧ (g p).post (fun res => ∀ v F' H', Ext F H F' H' → VRes K H0 H F' H' v res → Q v H') (fun _ _ => False)
def rGN (K : PySem.W.Frag) (g : GN) : List V → Hp → VK → Prop := fun xs H Q => ∃ H0 F ps, Same F H ∧ Same H0 H ∧ All2 (Vw K H0 F H) xs ps ∧ (g ps).post (fun res => ∀ v F' H', Ext F H F' H' → VRes K H0 H F' H' v res → Q v H') (fun _ _ => False)
def rGM (K : PySem.W.Frag) (g : Dv → List Dv → Rs R) : V → List V → Hp → VK → Prop := fun x xs H Q => ∃ H0 F p ps, Same F H ∧ Same H0 H ∧ Vw K H0 F H x p ∧ All2 (Vw K H0 F H) xs ps ∧ (g p ps).post (fun res => ∀ v F' H', Ext F H F' H' → VRes K H0 H F' H' v res → Q v H') (fun _ _ => False)
end
theorem pe_le {X : Cx} {e : Expr} {t t' : TE} (h : PE X e t) (l : ∀ σ H Q, t' σ H Q → t σ H Q) : PE X e t' := ⟨fun pins s σ H Q I q => h.run pins s σ H Q I (l σ H Q q)⟩
theorem pt_le {X : Cx} {e : Expr} {t t' : TT} (h : PT X e t) (l : ∀ σ H Q, t' σ H Q → t σ H Q) : PT X e t' := ⟨fun pins s σ H Q I q => h.run pins s σ H Q I (l σ H Q q)⟩
theorem pw_le {X : Cx} {e : Expr} {t t' : TT} (h : PW X e t) (l : ∀ σ H Q, t' σ H Q → t σ H Q) : PW X e t' := ⟨fun wh pins s σ H Q I q => h.run wh pins s σ H Q I (l σ H Q q)⟩
theorem pa_le {X : Cx} {e : List Expr} {t t' : TA} (h : PA X e t) (l : ∀ σ H Q, t' σ H Q → t σ H Q) : PA X e t' := ⟨fun pos pins s σ H Q I q => h.run pos pins s σ H Q I (l σ H Q q)⟩
theorem ps_le {X : Cx} {e : Stmt} {t t' : TS} (h : PS X e t) (l : ∀ D σ H, t' D σ H → t D σ H) : PS X e t' := ⟨fun pins s σ H D I q => h.run pins s σ H D I (l D σ H q)⟩
theorem pss_le {X : Cx} {e : List Stmt} {t t' : TS} (h : PSs X e t) (l : ∀ D σ H, t' D σ H → t D σ H) : PSs X e t' := ⟨fun pins s σ H D I q => h.run pins s σ H D I (l D σ H q)⟩
theorem opr_le {X : Cx} {f : Value → Value → Sem Value} {r r' : R2} (h : OpR X f r) (l : ∀ x y H Q, r' x y H Q → r x y H Q) : OpR X f r' := fun pins s σ H x y v u Q I rx ry q => h pins s σ H x y v u Q I rx ry (l _ _ _ _ q)
section
variable {X : Cx} {W : WX} {a b c : Expr} {fa fb fc : FE} {pos : Pos}
abbrev DE (X : Cx) (W : WX) (e : Expr) (f : FE) : Prop := PE X e (tE X.K X.mg W f)
abbrev DV (X : Cx) (W : WX) (e : Expr) (f : FV) : Prop := PE X e (tV X.K X.mg W f)
abbrev DD (X : Cx) (W : WX) (e : Expr) (f : FV) : Prop := PE X e (tD X.K X.mg W f)
abbrev DT (X : Cx) (W : WX) (e : Expr) (f : FT) : Prop := PT X e (tT X.K X.mg W f)
theorem DE.v (h : DE X W a fa) : DV X W a (rd fa) := pe_le h fun _ _ _ q => tV_rd q
theorem DE.d (h : DE X W a fa) : DD X W a (st fa) := pe_le h fun _ _ _ q => tD_st q
def fVar (i : Nat) : FE := fun env => match env[i]? with
  | some (some (.sh n d)) => .ok (env, .sh n d)
  | some (some (.ow _ _)) => .ok (env, .own i)
  | _ => .bad
theorem d_var (i : Nat) {x : Str} (hN : X.N[i]? = some x := by rfl) (hv : Vis X.env.scope x := by first | exact Or.inl rfl | exact Or.inr (Or.inl rfl) | exact Or.inr (Or.inr rfl)) (hd : (x == ("__debug__" : Str)) = false := by decide) (hcd : (x == ("__classdict__" : Str)) = false := by decide) : DE X W (.Name x pos) (fVar i) :=
  pe_le (pe_var hN hv hd hcd) fun σ H Q ⟨H0, F0, F, env, r, h⟩ => by
    obtain ⟨fp, rf⟩ := id r
    unfold fVar at h
    split at h
    · rename_i n d q
      obtain ⟨v, h1, h2⟩ := rf.sl i _ q
      exact ⟨v, h1, h v F H ⟨r, h2⟩ (Same.refl H) (Same.refl F)⟩
    · rename_i n d q
      obtain ⟨v, h1, h2⟩ := rf.sl i _ q
      exact ⟨v, h1, h v F H ⟨r, h1⟩ (Same.refl H) (Same.refl F)⟩
    · exact h.elim
/-- a constant that holds no object -/
def fC (d : PyData) : FE := fun env => .ok (env, .sh true d)
theorem c_of {e : Expr} {v : V} {d : PyData} (h : PE X e (tC v)) (hd : ∀ K H0 F, Is K H0 true F v d) : DE X W e (fC d) :=
  pe_le h fun σ H Q ⟨H0, F0, F, env, r, q⟩ => q v F H ⟨r, hd _ _ _⟩ (Same.refl H) (Same.refl F)
theorem d_int {i : Int} {j} : DE X W (.Constant (.int i) j pos) (fC (.int i)) := c_of pe_int fun _ _ _ => .int i
theorem d_bl {i : Bool} {j} : DE X W (.Constant (.bool i) j pos) (fC (.bool i)) := c_of pe_bl fun _ _ _ => .bl i
theorem d_non {j} : DE X W (.Constant .none j pos) (fC .none) := c_of pe_non fun _ _ _ => .non
theorem d_str {x : Str} {j} : DE X W (.Constant (.str x) j pos) (fC (.str x)) := c_of pe_str fun _ _ _ => .str x
/-- two operands, looked at -/
def f2 (g : G2) (fa fb : FV) : FE := fun env => (fa env).bind fun p => (fb p.1).bind fun q => (g p.2 q.2).bind fun r => .ok (q.1, r)
theorem two {g : G2} {fa fb : FV} {σ : St} {H : Hp} {Q : VK} (hg : ∀ p q e x, g p q ≠ .ex e x) (h : tE X.K X.mg W (f2 g fa fb) σ H Q) : tOp (rG2 X.K g) (tV X.K X.mg W fa) (tV X.K X.mg W fb) σ H Q := by
  obtain ⟨H0, F0, F, env, r, h⟩ := h
  refine ⟨H0, F0, F, env, r, ?_⟩
  unfold f2 at h
  refine Rs.post_mono (Rs.post_bind.mp h) (fun p hp v F1 H1 r1 v1 e1 e2 => ?_) fun _ _ x => x
  refine ⟨H0, F0, F1, p.1, r1, ?_⟩
  refine Rs.post_mono (Rs.post_bind.mp hp) (fun q hq u F2 H2 r2 v2 e3 e4 => ?_) fun _ _ x => x.to e2 e1
  refine ⟨H0, F2, p.2, q.2, r2.fz, r2.base, v1.to e4 e3, v2, ?_⟩
  have hq := Rs.post_bind.mp hq
  cases z : g p.2 q.2 with
  | bad => rw [z] at hq; exact hq.elim
  | ex e x => exact absurd z (hg _ _ _ _)
  | ok res =>
    rw [z] at hq
    exact fun w F' H' ex hv => hq w F' H' (hv.rel r2 ex) ((e1.trans e3).trans ex.h) ((e2.trans e4).trans ex.f)
theorem d_op {op : Operator} {g : G2} (hr : OpR X (binaryOp op) (rG2 X.K g)) (hg : ∀ p q e x, g p q ≠ .ex e x) (ha : DE X W a fa) (hb : DE X W b fb) : DE X W (.BinOp a op b pos) (f2 g (rd fa) (rd fb)) :=
  pe_le (pe_op hr ha.v hb.v) fun _ _ _ q => two hg q
theorem d_cmp {op : CmpOp} {g : G2} (hr : OpR X (compareOp op) (rG2 X.K g)) (hg : ∀ p q e x, g p q ≠ .ex e x) (ha : DE X W a fa) (hb : DE X W b fb) (hm : behindInMarks op b = false) : DE X W (.Compare a [op] [b] pos) (f2 g (rd fa) (rd fb)) :=
  pe_le (pe_cmpR hr ha.v hb.v hm) fun _ _ _ q => two hg q
theorem d_ix {g : G2} (hr : IxR X (rG2 X.K g)) (hg : ∀ p q e x, g p q ≠ .ex e x) (ha : DE X W a fa) (hb : DE X W b fb) (hp : PlainIx b) : DE X W (.Subscript a b pos) (f2 g (rd fa) (rd fb)) :=
  pe_le (pe_ix hr ha.v hb.v hp) fun _ _ _ q => two hg q
/-- one operand -/
def f1 (g : G1) (fa : FV) : FE := fun env => (fa env).bind fun p => (g p.2).bind fun r => .ok (p.1, r)
theorem one {g : G1} {fa : FV} {σ : St} {H : Hp} {Q : VK} (hg : ∀ p e x, g p ≠ .ex e x) (h : tE X.K X.mg W (f1 g fa) σ H Q) : tUn (rG1 X.K g) (tV X.K X.mg W fa) σ H Q := by
  obtain ⟨H0, F0, F, env, r, h⟩ := h
  refine ⟨H0, F0, F, env, r, ?_⟩
  unfold f1 at h
  refine Rs.post_mono (Rs.post_bind.mp h) (fun p hp v F1 H1 r1 v1 e1 e2 => ?_) fun _ _ x => x
  refine ⟨H0, F1, p.2, r1.fz, r1.base, v1, ?_⟩
  have hp := Rs.post_bind.mp hp
  cases z : g p.2 with
  | bad => rw [z] at hp; exact hp.elim
  | ex e x => exact absurd z (hg _ _ _)
  | ok res =>
    rw [z] at hp
    exact fun w F' H' ex hv => hp w F' H' (hv.rel r1 ex) (e1.trans ex.h) (e2.trans ex.f)
theorem d_un {op : UnaryOp} {g : G1} (hr : UnR X (unaryOp op) (rG1 X.K g)) (hg : ∀ p e x, g p ≠ .ex e x) (ha : DE X W a fa) : DE X W (.UnaryOp op a pos) (f1 g (rd fa)) :=
  pe_le (pe_un hr ha.v) fun _ _ _ q => one hg q
def fNil : FA := fun env => .ok (env, [])
def fCons (f : FV) (g : FA) : FA := fun env => (f env).bind fun p => (g p.1).bind fun q => .ok (q.1, p.2 :: q.2)
abbrev DAV (X : Cx) (W : WX) (es : List Expr) (f : FA) : Prop := PA X es (tAV X.K X.mg W f)
abbrev DAD (X : Cx) (W : WX) (es : List Expr) (f : FA) : Prop := PA X es (tAD X.K X.mg W f)
theorem dav_nil : DAV X W [] fNil := pa_le pa_nil fun σ H Q ⟨H0, F0, F, env, r, h⟩ => h [] F H r .nil (Same.refl H) (Same.refl F)
theorem dad_nil : DAD X W [] fNil := pa_le pa_nil fun σ H Q ⟨H0, F0, F, env, r, h⟩ => h [] F H r .nil (Same.refl H) (Same.refl F)
theorem dav_cons {e : Expr} {es : List Expr} {f : FE} {g : FA} (h : DE X W e f) (t : DAV X W es g) (hs : starEach (e :: es) X.env = (false, eval e X.env) :: starEach es X.env := by rfl) : DAV X W (e :: es) (fCons (rd f) g) :=
  pa_le (pa_cons h.v t hs) fun σ H Q ⟨H0, F0, F, env, r, h⟩ => by
    refine ⟨H0, F0, F, env, r, ?_⟩
    unfold fCons at h
    refine Rs.post_mono (Rs.post_bind.mp h) (fun p hp v F1 H1 r1 v1 e1 e2 => ?_) fun _ _ x => x
    refine ⟨H0, F0, F1, p.1, r1, ?_⟩
    refine Rs.post_mono (Rs.post_bind.mp hp) (fun q hq vs F2 H2 r2 v2 e3 e4 => ?_) fun _ _ x => x.to e2 e1
    exact hq (v :: vs) F2 H2 r2 (.cons (v1.to e4 e3) v2) (e1.trans e3) (e2.trans e4)
theorem dad_cons {e : Expr} {es : List Expr} {f : FE} {g : FA} (h : DE X W e f) (t : DAD X W es g) (hs : starEach (e :: es) X.env = (false, eval e X.env) :: starEach es X.env := by rfl) : DAD X W (e :: es) (fCons (st f) g) :=
  pa_le (pa_cons h.d t hs) fun σ H Q ⟨H0, F0, F, env, r, h⟩ => by
    refine ⟨H0, F0, F, env, r, ?_⟩
    unfold fCons at h
    refine Rs.post_mono (Rs.post_bind.mp h) (fun p hp v F1 H1 r1 v1 e1 e2 => ?_) fun _ _ x => x
    refine ⟨H0, F0, F1, p.1, r1, ?_⟩
    refine Rs.post_mono (Rs.post_bind.mp hp) (fun q hq vs F2 H2 r2 v2 e3 e4 => ?_) fun _ _ x => x.to e2 e1
    exact hq (v :: vs) F2 H2 r2 (.cons (v1.to e4) v2) (e1.trans e3) (e2.trans e4)
def flags (ps : List Dv) : Bool := ps.all (·.1)
def datas (ps : List Dv) : List PyData := ps.map (·.2)
theorem isA_of {K : PySem.W.Frag} {H0 F H : Hp} : ∀ {vs : List V} {ps : List Dv}, All2 (IsV K H0 F H) vs ps → IsA K H0 (flags ps) F vs (datas ps)
  | _, _, .nil => .nil
  | _, _, .cons (b := p) (bs := ps) h t => .cons (Is.le (show Le H0 F p.1 H0 F (flags (p :: ps)) from ⟨Same.refl F, fun z => (Bool.and_eq_true_iff.mp (show (p.1 && ps.all (·.1)) = true from z)).1, fun _ _ _ h => h⟩) h)
      ((isA_of t).le (show Le H0 F (flags ps) H0 F (flags (p :: ps)) from ⟨Same.refl F, fun z => (Bool.and_eq_true_iff.mp (show (p.1 && ps.all (·.1)) = true from z)).2, fun _ _ _ h => h⟩))
def fTup (f : FA) : FE := fun env => (f env).bind fun p => grd (decide (p.2.length ≤ 10000)) (.ok (p.1, .sh (flags p.2) (.tuple (datas p.2))))
def fLst (f : FA) : FE := fun env => (f env).bind fun p => grd (decide (p.2.length ≤ 10000)) (.ok (p.1, .nw (flags p.2) (datas p.2)))
theorem All2.length {α β : Type} {P : α → β → Prop} : ∀ {as : List α} {bs : List β}, All2 P as bs → as.length = bs.length
  | _, _, .nil => rfl
  | _, _, .cons _ t => by simp [t.length]
theorem ten {n : Nat} (h : n ≤ 10000) : n ≤ sizeLine := Nat.le_trans h (by decide)
theorem d_tup {es : List Expr} {x1 : Nat} {f : FA} (h : DAD X W es f) : DE X W (.Tuple es x1 pos) (fTup f) :=
  pe_le (pe_tup h) fun σ H Q ⟨H0, F0, F, env, r, h⟩ => by
    refine ⟨H0, F0, F, env, r, ?_⟩
    unfold fTup at h
    refine Rs.post_mono (Rs.post_bind.mp h) (fun p hp vs F1 H1 r1 v1 e1 e2 => ?_) fun _ _ x => x
    obtain ⟨hz, hp⟩ := grd_post hp
    refine ⟨by rw [v1.length]; exact ten (of_decide_eq_true hz), fun q hq => ?_⟩
    refine hp (.ref q) (upd F1 q (.tup vs)) _ ⟨r1.alloc hq, .tup upd_same ((isA_of v1).to (same_new (same_none r1.fz hq)))⟩ (e1.trans (same_new hq)) (e2.trans (same_new (same_none r1.fz hq)))
theorem d_lst {es : List Expr} {f : FA} (h : DAD X W es f) : DE X W (.List es pos) (fLst f) :=
  pe_le (pe_lst h) fun σ H Q ⟨H0, F0, F, env, r, h⟩ => by
    refine ⟨H0, F0, F, env, r, ?_⟩
    unfold fLst at h
    refine Rs.post_mono (Rs.post_bind.mp h) (fun p hp vs F1 H1 r1 v1 e1 e2 => ?_) fun _ _ x => x
    obtain ⟨hz, hp⟩ := grd_post hp
    refine ⟨by rw [v1.length]; exact ten (of_decide_eq_true hz), fun q hq => ?_⟩
    exact hp (.ref q) F1 _ (r1.allocO hq (isA_of v1)) (e1.trans (same_new hq)) e2
theorem Rel.back {K : PySem.W.Frag} {H0 F0 F H H' : Hp} {env : Env} {σ : St} (r : Rel K H0 F0 env σ F H) (e : Same H H') : Rel K H0 F0 env σ F H' := r.heap e
/-- all that a slot alone holds lent out as shared -/
def lent (env : Env) : Env := env.map fun s => s.map fun s => .sh s.flag s.data
theorem Rel.lend {K : PySem.W.Frag} {H0 F0 F H : Hp} {σ : St} : ∀ (k : Nat) {env : Env}, Rel K H0 F0 env σ F H → k ≤ env.length → ∃ F', Same F F' ∧ Rel K H0 F0 (lent (env.take k) ++ env.drop k) σ F' H
  | 0, env, r, _ => ⟨F, Same.refl F, by simpa [lent] using r⟩
  | k + 1, env, r, hk => by
    obtain ⟨F1, e1, r1⟩ := Rel.lend k r (by omega)
    have hlen : (lent (env.take k)).length = k := by simp [lent]; omega
    have hk' : k < env.length := by omega
    have hget : (lent (env.take k) ++ env.drop k)[k]? = env[k]? := by
      rw [List.getElem?_append_right (by omega), hlen, Nat.sub_self, List.getElem?_drop]; simp
    have hgoal : lent (env.take (k + 1)) ++ env.drop (k + 1) = (lent (env.take k) ++ env.drop k).set k (env[k].map fun s => .sh s.flag s.data) := by
      rw [List.set_append_right _ _ (by omega), hlen, Nat.sub_self, List.drop_eq_getElem_cons hk', List.set_cons_zero, List.take_succ_eq_append_getElem hk']
      unfold lent
      rw [List.map_append, List.append_assoc]
      rfl
    rw [hgoal]
    cases q : env[k] with
    | none =>
      refine ⟨F1, e1, ?_⟩
      have : (lent (env.take k) ++ env.drop k).set k (Option.map (fun s : Sl => .sh s.flag s.data) none) = lent (env.take k) ++ env.drop k := by
        apply List.ext_getElem?
        intro i
        by_cases z : k = i
        · subst z
          rw [List.getElem?_set_self (by simp [hlen]; omega), hget, List.getElem?_eq_getElem hk', q]; rfl
        · rw [List.getElem?_set_ne z]
      rw [this]; exact r1
    | some s =>
      obtain ⟨F2, v, e2, r2, _, _⟩ := r1.share (i := k) (s := s) (by rw [hget, List.getElem?_eq_getElem hk', q])
      exact ⟨F2, e1.trans e2, r2⟩
theorem Rel.lendAll {K : PySem.W.Frag} {H0 F0 F H : Hp} {env : Env} {σ : St} (r : Rel K H0 F0 env σ F H) : ∃ F', Same F F' ∧ Rel K H0 F0 (lent env) σ F' H := by
  obtain ⟨F', e, h⟩ := Rel.lend env.length r (Nat.le_refl _)
  refine ⟨F', e, ?_⟩
  simpa using h
/-- an expression whose value is True or False, as a test; what it keeps on the way is forgotten -/
def fB (f : FV) : FT := fun env => match f (lent env) with
  | .ok (_, (_, .bool b)) => .ok b
  | .ex _ x => .ex env x
  | _ => .bad
theorem Rel.unlend {K : PySem.W.Frag} {H0 F0 F H H' : Hp} {env : Env} {σ : St} (r : Rel K H0 F0 env σ F H) (e : Same H H') : Rel K H0 F0 env σ F H' := r.heap e
theorem tV_lent {K : PySem.W.Frag} {mg : Str → Option Value} {f : FV} {σ : St} {H : Hp} {Q : Bool → Hp → Prop} (h : tT K mg W (fB f) σ H Q) : tV K mg W f σ H fun x H1 => ∃ c, x = .bl c ∧ Q c H1 := by
  obtain ⟨H0, F0, F, env, r, h⟩ := h
  obtain ⟨F1, e1, r1⟩ := r.lendAll
  refine ⟨H0, F0, F1, lent env, r1, ?_⟩
  unfold fB at h
  split at h
  · rename_i e n b q
    rw [q]
    intro v F' H' r2 hv e2 e3
    have : v = .bl b := by
      rcases hv with hv | ⟨_, _, _, _, hv, _⟩
      · cases hv; rfl
      · cases hv
    exact ⟨b, this, h H' (r.heap e2) e2⟩
  · rename_i e x q
    rw [q]
    exact fun cls dO F' H' r2 a b z => h cls dO F H' (r.heap a) a (Same.refl F) z
  · exact h.elim
theorem t_val {e : Expr} {f : FE} (h : DE X W e f) (he : ∀ whole, isTrue e X.env whole = (do let v ← whole; standAt e.pos; holding [v] (truthy v)) := by intro _; rfl) : DT X W e (fB (rd f)) :=
  pt_le (pt_val h.v he) fun _ _ _ q => tV_lent q
theorem t_cmp {op : CmpOp} {g : G2} (hr : OpR X (compareOp op) (rG2 X.K g)) (hg : ∀ p q e x, g p q ≠ .ex e x) (ha : DE X W a fa) (hb : DE X W b fb) (hm : behindInMarks op b = false) : DT X W (.Compare a [op] [b] pos) (fB (rd (f2 g (rd fa) (rd fb)))) :=
  pt_le (pt_cmpR hr ha.v hb.v hm) fun σ H Q q => by
    have := tV_lent q
    exact two hg (tV_rd this)
def fNot (f : FT) : FT := fun env => (f env).bind fun b => .ok (!b)
def fAnd (f g : FT) : FT := fun env => (f env).bind fun b => if b = true then g env else .ok false
def fOr (f g : FT) : FT := fun env => (f env).bind fun b => if b = true then .ok true else g env
theorem t_not {f : FT} (h : DT X W a f) : DT X W (.UnaryOp .Not a pos) (fNot f) := pt_le (pt_not h) fun σ H Q ⟨H0, F0, F, env, r, q⟩ => by
  refine ⟨H0, F0, F, env, r, ?_⟩
  unfold fNot at q
  exact Rs.post_mono (Rs.post_bind.mp q) (fun b hb H' r' e => hb H' r' e) fun _ _ x => x
abbrev DW (X : Cx) (W : WX) (e : Expr) (f : FT) : Prop := PW X e (tT X.K X.mg W f)
theorem w_and1 {f : FT} (h : DT X W a f) : DW X W (.BoolOp .And [a] pos) f := pw_and1 h
theorem w_or1 {f : FT} (h : DT X W a f) : DW X W (.BoolOp .Or [a] pos) f := pw_or1 h
theorem w_and {f g : FT} {rest : List Expr} (h : DT X W a f) (t : DW X W (.BoolOp .And (b :: rest) pos) g) : DW X W (.BoolOp .And (a :: b :: rest) pos) (fAnd f g) := pw_le (pw_and h t) fun σ H Q ⟨H0, F0, F, env, r, q⟩ => by
  refine ⟨H0, F0, F, env, r, ?_⟩
  unfold fAnd at q
  refine Rs.post_mono (Rs.post_bind.mp q) (fun c hc H' r' e => ?_) fun _ _ x => x
  cases c with
  | true => exact ⟨H0, F0, F, env, r', Rs.post_mono hc (fun b hb H2 r2 e2 => hb H2 r2 (e.trans e2)) fun _ _ x => x.to (Same.refl F) e⟩
  | false => exact hc H' r' e
theorem w_or {f g : FT} {rest : List Expr} (h : DT X W a f) (t : DW X W (.BoolOp .Or (b :: rest) pos) g) : DW X W (.BoolOp .Or (a :: b :: rest) pos) (fOr f g) := pw_le (pw_or h t) fun σ H Q ⟨H0, F0, F, env, r, q⟩ => by
  refine ⟨H0, F0, F, env, r, ?_⟩
  unfold fOr at q
  refine Rs.post_mono (Rs.post_bind.mp q) (fun c hc H' r' e => ?_) fun _ _ x => x
  cases c with
  | false => exact ⟨H0, F0, F, env, r', Rs.post_mono hc (fun b hb H2 r2 e2 => hb H2 r2 (e.trans e2)) fun _ _ x => x.to (Same.refl F) e⟩
  | true => exact hc H' r' e
theorem DW.t {e : Expr} {f : FT} (h : DW X W e f) : DT X W e f := PW.pt h
/-- a if t else b -/
def fIf (t : FT) (f g : FE) : FE := fun env => (t env).bind fun b => if b = true then f env else g env
theorem d_if {t : FT} (h : DT X W c t) (ha : DE X W a fa) (hb : DE X W b fb) : DE X W (.IfExp c a b pos) (fIf t fa fb) := pe_le (pe_ifExp h ha hb) fun σ H Q ⟨H0, F0, F, env, r, q⟩ => by
  refine ⟨H0, F0, F, env, r, ?_⟩
  unfold fIf at q
  refine Rs.post_mono (Rs.post_bind.mp q) (fun d hd H' r' e => ?_) fun _ _ x => x
  cases d with
  | true => exact ⟨H0, F0, F, env, r', Rs.post_mono hd (fun p hp v F' H2 r2 e2 e3 => hp v F' H2 r2 (e.trans e2) e3) fun _ _ x => x.to (Same.refl F) e⟩
  | false => exact ⟨H0, F0, F, env, r', Rs.post_mono hd (fun p hp v F' H2 r2 e2 e3 => hp v F' H2 r2 (e.trans e2) e3) fun _ _ x => x.to (Same.refl F) e⟩
end
end Dn
namespace Dn
open PySem PySem.Spec L2
inductive Out where
  | nx (e : Env)
  | rt (r : R)
  | bk (e : Env)
  | ct (e : Env)
abbrev FS := Env → Rs Out
def ExS (K : PySem.W.Frag) (mg : Str → Option Value) (W : WX) (H0 F0 F : Hp) (e : Env) (x : Exn) : Prop := ∀ cls dO σ F' H', Rel K H0 F0 e σ F' H' → Same F F' → exnIs mg x cls dO H' → W cls dO σ H'
def OutP (K : PySem.W.Frag) (H0 F0 F : Hp) (D : Ends) : Out → Prop
  | .nx e => ∀ σ' F' H', Rel K H0 F0 e σ' F' H' → Same F F' → D.nx σ' H'
  | .bk e => ∀ σ' F' H', Rel K H0 F0 e σ' F' H' → Same F F' → D.bk σ' H'
  | .ct e => ∀ σ' F' H', Rel K H0 F0 e σ' F' H' → Same F F' → D.ct σ' H'
  | .rt r => ∀ v F' H', Same F F' → Same F' H' → Same H0 H' → (∀ a, F' a ≠ none → F0 a ≠ none ∨ H0 a = none) → VRes K H0 H0 F' H' v r → D.rt v H'
def tS (K : PySem.W.Frag) (mg : Str → Option Value) (W : WX) (f : FS) : TS := fun D σ H => ∃ H0 F0 F env, Rel K H0 F0 env σ F H ∧ (f env).post (OutP K H0 F0 F D) (ExS K mg W H0 F0 F)
abbrev DS (X : Cx) (W : WX) (s : Stmt) (f : FS) : Prop := PS X s (tS X.K X.mg W f)
abbrev DSs (X : Cx) (W : WX) (s : List Stmt) (f : FS) : Prop := PSs X s (tS X.K X.mg W f)
section
variable {K : PySem.W.Frag} {mg : Str → Option Value} {W : WX} {H0 F0 F F' H H' : Hp} {env : Env} {σ : St} {D : Ends}
theorem OutP.to {o : Out} (h : OutP K H0 F0 F D o) (e : Same F F') : OutP K H0 F0 F' D o := by
  cases o with
  | nx e1 => exact fun σ' F2 H2 r q => h σ' F2 H2 r (e.trans q)
  | bk e1 => exact fun σ' F2 H2 r q => h σ' F2 H2 r (e.trans q)
  | ct e1 => exact fun σ' F2 H2 r q => h σ' F2 H2 r (e.trans q)
  | rt r => exact fun v F2 H2 q => h v F2 H2 (e.trans q)
theorem ExS.to {e : Env} {x : Exn} (h : ExS K mg W H0 F0 F e x) (q : Same F F') : ExS K mg W H0 F0 F' e x := fun cls dO σ' F2 H2 r a b => h cls dO σ' F2 H2 r (q.trans a) b
theorem ExS.p {e : Env} {x : Exn} (h : ExS K mg W H0 F0 F e x) (q : Same F F') : ExP K mg W H0 F0 F' H σ e x := fun cls dO F2 H2 r _ a b => h cls dO σ F2 H2 r (q.trans a) b
theorem rel_new (r : Rel K H0 F0 env σ F H) : ∀ a, F a ≠ none → F0 a ≠ none ∨ H0 a = none := let ⟨_, h⟩ := r; h.new
end
section
variable {X : Cx} {W : WX} {e : Expr} {f : FE} {pos : Pos} {s : Stmt} {g h : FS} {rest : List Stmt}
def fNext : FS := fun env => .ok (.nx env)
/-- an expression first -/
theorem via {te : TE} {D : Ends} {σ : St} {H : Hp} {k : Env × R → Rs Out} {Q : VK} (h : tS X.K X.mg W (fun env => (f env).bind k) D σ H)
    (hq : ∀ H0 F0 F env p, Rel X.K H0 F0 env σ F H → (k p).post (OutP X.K H0 F0 F D) (ExS X.K X.mg W H0 F0 F) → ∀ v F' H', RelR X.K H0 F0 p.1 σ F' H' v p.2 → Same H H' → Same F F' → Q v H') : tE X.K X.mg W f σ H Q := by
  obtain ⟨H0, F0, F, env, r, h⟩ := h
  refine ⟨H0, F0, F, env, r, ?_⟩
  exact Rs.post_mono (Rs.post_bind.mp h) (fun p hp => hq H0 F0 F env p r hp) fun _ _ x => x.p (Same.refl F)
def fDrop (f : FE) : FS := fun env => (f env).bind fun p => .ok (.nx p.1)
theorem s_expr (he : DE X W e f) (hs : swapsWith e none pos.line X.env = pure false := by rfl) : DS X W (.Expr e pos) (fDrop f) :=
  ps_le (ps_expr he hs) fun D σ H q => via (te := tC .non) q fun H0 F0 F env p r hp v F' H' hr _ e2 => by
    obtain ⟨e1, k⟩ := p
    cases k with
    | sh n d => exact hp σ F' H' hr.1 e2
    | nw n ds => exact hp σ F' H' (Rel.pop hr) e2
    | own i => exact hp σ F' H' hr.1 e2
/-- a string alone -/
theorem s_pass : DS X W (.Pass pos) fNext := ps_le ps_pass fun D σ H ⟨H0, F0, F, env, r, h⟩ => h σ F H r (Same.refl F)
theorem s_break : DS X W (.Break pos) (fun env => .ok (.bk env)) := ps_le ps_break fun D σ H ⟨H0, F0, F, env, r, h⟩ => h σ F H r (Same.refl F)
theorem s_continue : DS X W (.Continue pos) (fun env => .ok (.ct env)) := ps_le ps_continue fun D σ H ⟨H0, F0, F, env, r, h⟩ => h σ F H r (Same.refl F)
def fSeq (g h : FS) : FS := fun env => (g env).bind fun o => match o with
  | .nx e => h e
  | o => .ok o
theorem ss_nil : DSs X W [] fNext := pss_le pss_nil fun D σ H ⟨H0, F0, F, env, r, h⟩ => h σ F H r (Same.refl F)
theorem ss_cons (h1 : DS X W s g) (h2 : DSs X W rest h) : DSs X W (s :: rest) (fSeq g h) :=
  pss_le (pss_cons h1 h2) fun D σ H ⟨H0, F0, F, env, r, q⟩ => by
    refine ⟨H0, F0, F, env, r, ?_⟩
    unfold fSeq at q
    refine Rs.post_mono (Rs.post_bind.mp q) (fun o ho => ?_) fun _ _ x => x
    cases o with
    | nx e1 => exact fun σ' F' H' r' e2 => ⟨H0, F0, F', e1, r', Rs.post_mono ho (fun _ z => z.to e2) fun _ _ z => z.to e2⟩
    | bk e1 => exact ho
    | ct e1 => exact ho
    | rt r1 => exact ho
theorem ss_one (h1 : DS X W s g) : DSs X W [s] g :=
  pss_le (pss_one h1) fun D σ H q => q
/-- return e -/
def fRet (f : FE) : FS := fun env => (f env).bind fun p => match p.2 with
  | .sh n d => .ok (.rt (.sh n d))
  | .nw n ds => .ok (.rt (.nw n ds))
  | .own i => match p.1[i]? with
    | some (some (.ow n ds)) => .ok (.rt (.nw n ds))
    | _ => .bad
theorem s_ret (he : DE X W e f) : DS X W (.Return (some e) pos) (fRet f) :=
  ps_le (ps_ret he) fun D σ H q => via (te := tC .non) q fun H0 F0 F env p r hp v F' H' hr _ e2 => by
    obtain ⟨e1, k⟩ := p
    cases k with
    | sh n d => exact hp v F' H' e2 hr.1.fz hr.1.base (rel_new hr.1) hr.2
    | nw n ds =>
      obtain ⟨fp, rf⟩ := hr
      obtain ⟨u, hu, a, xs, rfl, k1, k2, k3⟩ := rf.sl e1.length _ app_get
      have hl : σ.length = e1.length := by have := rf.len; simpa using this
      rw [← hl, app_get] at hu; cases hu
      obtain ⟨o1, o2, _⟩ := rf.out _ a k2
      exact hp _ F' H' e2 rf.fz rf.base rf.new ⟨a, xs, rfl, o2, o1, k1, k3⟩
    | own i =>
      obtain ⟨hr, hv⟩ := hr
      dsimp only at hp
      split at hp
      · rename_i n ds q
        obtain ⟨fp, rf⟩ := hr
        obtain ⟨u, hu, a, xs, rfl, k1, k2, k3⟩ := rf.sl i _ q
        rw [hv] at hu; cases hu
        obtain ⟨o1, o2, _⟩ := rf.out _ a k2
        exact hp _ F' H' e2 rf.fz rf.base rf.new ⟨a, xs, rfl, o2, o1, k1, k3⟩
      · exact hp.elim
def fRetN : FS := fun env => .ok (.rt (.sh true .none))
theorem s_retN : DS X W (.Return none pos) fRetN := ps_le ps_retN fun D σ H ⟨H0, F0, F, env, r, q⟩ => q _ F H (Same.refl F) r.fz r.base (rel_new r) .non
theorem set_get {α : Type} {l : List α} {i j : Nat} {x y : α} (h : (l.set i x)[j]? = some y) : (j = i ∧ x = y) ∨ (j ≠ i ∧ l[j]? = some y) := by
  by_cases z : j = i
  · subst z
    have hj : j < l.length := by have := (List.getElem?_eq_some_iff.mp h).1; simpa using this
    rw [List.getElem?_set_self hj] at h; cases h; exact .inl ⟨rfl, rfl⟩
  · rw [List.getElem?_set_ne (Ne.symm z)] at h; exact .inr ⟨z, h⟩
theorem Rel.put {K : PySem.W.Frag} {H0 F0 F H : Hp} {env : Env} {σ : St} {i : Nat} {n : Bool} {d : PyData} {v : V} (r : Rel K H0 F0 env σ F H) (h : Is K H0 n F v d) : Rel K H0 F0 (env.set i (some (.sh n d))) (σ.set i (some v)) F H := by
  refine r.sub (by simp [r.len]) fun j s q => ?_
  rcases set_get q with ⟨hj, hx⟩ | ⟨hj, hx⟩
  · have hs : Sl.sh n d = s := Option.some.inj hx
    subst hs
    have hlt : j < σ.length := by have := (List.getElem?_eq_some_iff.mp q).1; rw [r.len]; simpa using this
    exact .inr ⟨v, n, d, rfl, by rw [hj] at hlt ⊢; exact List.getElem?_set_self hlt, h⟩
  · exact .inl ⟨hx, List.getElem?_set_ne (Ne.symm hj)⟩
/-- a new list comes to a slot -/
theorem Rel.putO {K : PySem.W.Frag} {H0 F0 F H : Hp} {env : Env} {σ : St} {i : Nat} {n : Bool} {ds : List PyData} {v : V} (r : Rel K H0 F0 (env ++ [some (.ow n ds)]) (σ ++ [some v]) F H) : Rel K H0 F0 (env.set i (some (.ow n ds))) (σ.set i (some v)) F H := by
  obtain ⟨fp, r⟩ := r
  have hl : σ.length = env.length := by have := r.len; simpa using this
  obtain ⟨u, hu, h2⟩ := r.sl env.length _ app_get
  rw [← hl, app_get] at hu; cases hu
  refine ⟨fun j a => if j = i then fp env.length a else j < env.length ∧ fp j a, ⟨r.fz, r.base, by simp [hl], fun j s q => ?_, fun j k a h1 h2 => ?_, fun j a h1 => ?_, r.new, r.f0⟩⟩
  · rcases set_get q with ⟨hj, hx⟩ | ⟨hj, hx⟩
    · have hs : Sl.ow n ds = s := Option.some.inj hx
      subst hs
      have hlt : j < σ.length := by have := (List.getElem?_eq_some_iff.mp q).1; rw [hl]; simpa using this
      refine ⟨v, by rw [hj] at hlt ⊢; exact List.getElem?_set_self hlt, ?_⟩
      have e : (fun a => if j = i then fp env.length a else j < env.length ∧ fp j a) = fp env.length := by funext a; rw [if_pos hj]
      rw [e]; exact h2
    · obtain ⟨u, g1, g2⟩ := r.sl j s (app_left hx)
      have hlt : j < env.length := (List.getElem?_eq_some_iff.mp hx).1
      have e : (fun a => if j = i then fp env.length a else j < env.length ∧ fp j a) = fp j := by funext a; simp [hj, hlt]
      refine ⟨u, ?_, by rw [e]; exact g2⟩
      rw [List.getElem?_append_left (by omega)] at g1
      rw [List.getElem?_set_ne (Ne.symm hj)]; exact g1
  · by_cases z1 : j = i <;> by_cases z2 : k = i
    · rw [z1, z2]
    · simp only [if_pos z1, if_neg z2] at h1 h2
      have := r.dis _ _ a h1 h2.2
      omega
    · simp only [if_neg z1, if_pos z2] at h1 h2
      have := r.dis _ _ a h2 h1.2
      omega
    · simp only [if_neg z1, if_neg z2] at h1 h2
      exact r.dis _ _ a h1.2 h2.2
  · by_cases z1 : j = i
    · simp only [if_pos z1] at h1
      exact r.out _ a h1
    · simp only [if_neg z1] at h1
      exact r.out _ a h1.2
/-- x = e -/
def put (i : Nat) (p : Env × R) : Rs Env := match p.2 with
  | .sh n d => .ok (p.1.set i (some (.sh n d)))
  | .nw n ds => .ok (p.1.set i (some (.ow n ds)))
  | .own j => match p.1[j]? with
    | some (some s) => .ok ((p.1.set j (some (.sh s.flag s.data))).set i (some (.sh s.flag s.data)))
    | _ => .bad
theorem put_ok {K : PySem.W.Frag} {H0 F0 F H : Hp} {σ : St} {i : Nat} {p : Env × R} {v : V} {e : Env} (h : RelR K H0 F0 p.1 σ F H v p.2) (q : put i p = .ok e) : ∃ F', Same F F' ∧ Rel K H0 F0 e (σ.set i (some v)) F' H := by
  obtain ⟨e1, k⟩ := p
  cases k with
  | sh n d =>
    cases q
    exact ⟨F, Same.refl F, h.1.put h.2⟩
  | nw n ds =>
    cases q
    exact ⟨F, Same.refl F, Rel.putO h⟩
  | own j =>
    obtain ⟨h, hv⟩ := h
    unfold put at q
    dsimp only at q
    split at q
    · rename_i s hs
      cases q
      obtain ⟨F2, u, e2, r2, hu, hi⟩ := h.share hs
      rw [hv] at hu; cases hu
      exact ⟨F2, e2, r2.put hi⟩
    · cases q
def fSet (i : Nat) (f : FE) : FS := fun env => (f env).bind fun p => (put i p).bind fun e => .ok (.nx e)
theorem put_post {i : Nat} {p : Env × R} {P : Out → Prop} {E : Env → Exn → Prop} (h : ((put i p).bind fun e => .ok (.nx e)).post P E) : ∃ e, put i p = .ok e ∧ P (.nx e) := by
  cases z : put i p with
  | bad => rw [z] at h; exact h.elim
  | ok e => rw [z] at h; exact ⟨e, rfl, h⟩
  | ex e x =>
    unfold put at z
    split at z
    · cases z
    · cases z
    · split at z <;> cases z
section
variable {X : Cx} {W : WX} {e : Expr} {f : FE} {pos pos' : Pos} {x : Str}
theorem s_set (i : Nat) (hN : X.N.Nodup) (he : DE X W e f) (hi : X.N[i]? = some x := by rfl) (hx : L2.Loc X.env.scope x := by first | exact Or.inl rfl | exact Or.inr rfl) (hs : swapsWith e (some (.Name x pos')) pos.line X.env = pure false := by rfl)
    (hf : X.fn x = true ∨ X.env.scope.names.lookup x = some .local := by first | exact .inl rfl | exact .inr rfl) : DS X W (.Assign [.Name x pos'] e pos) (fSet i f) :=
  ps_le (ps_set hN hi hx he hs hf) fun D σ H q => via (te := tC .non) q fun H0 F0 F env p r hp v F' H' hr _ e2 => by
    obtain ⟨e1, q1, q2⟩ := put_post hp
    obtain ⟨F2, e3, r2⟩ := put_ok hr q1
    exact q2 _ F2 H' r2 (e2.trans e3)
abbrev FG := Dv → Env → Rs Env
/-- all but these slots as they were -/
def But (is : List Nat) (σ σ' : St) : Prop := σ'.length = σ.length ∧ ∀ i, i ∉ is → σ'[i]? = σ[i]?
theorem But.refl (is : List Nat) (σ : St) : But is σ σ := ⟨rfl, fun _ _ => rfl⟩
theorem But.trans {is js : List Nat} {σ σ1 σ2 : St} (a : But is σ σ1) (b : But js σ1 σ2) : But (is ++ js) σ σ2 := ⟨b.1.trans a.1, fun i h => (b.2 i fun z => h (List.mem_append_right _ z)).trans (a.2 i fun z => h (List.mem_append_left _ z))⟩
def tG (K : PySem.W.Frag) (is : List Nat) (g : FG) : TG := fun v σ H Q => ∃ H0 F0 F env p, Rel K H0 F0 env σ F H ∧ Is K H0 p.1 F v p.2 ∧ (g p env).post (fun e => ∀ σ', Rel K H0 F0 e σ' F H → But is σ σ' → Q σ' H) (fun _ _ => False)
abbrev DG (X : Cx) (tg : Expr) (is : List Nat) (g : FG) : Prop := PG X tg (tG X.K is g)
abbrev FGs := Bool → List PyData → Env → Rs Env
def tGs (K : PySem.W.Frag) (is : List Nat) (g : FGs) : TGs := fun vs σ H Q => ∃ H0 F0 F env n ds, Rel K H0 F0 env σ F H ∧ IsA K H0 n F vs ds ∧ (g n ds env).post (fun e => ∀ σ', Rel K H0 F0 e σ' F H → But is σ σ' → Q σ' H) (fun _ _ => False)
abbrev DGs (X : Cx) (ts : List Expr) (is : List Nat) (g : FGs) : Prop := PGs X ts (tGs X.K is g)
theorem pg_le {tg : Expr} {t t' : TG} (h : PG X tg t) (l : ∀ v σ H Q, t' v σ H Q → t v σ H Q) : PG X tg t' := ⟨fun pins s σ H v u Q I r q => h.run pins s σ H v u Q I r (l _ _ _ _ q)⟩
theorem pgs_le {tg : List Expr} {t t' : TGs} (h : PGs X tg t) (l : ∀ v σ H Q, t' v σ H Q → t v σ H Q) : PGs X tg t' := ⟨fun pins s σ H v u Q I r q => h.run pins s σ H v u Q I r (l _ _ _ _ q)⟩
def gN (i : Nat) : FG := fun p env => .ok (env.set i (some (.sh (p.1 || atom p.2) p.2)))
theorem g_name (i : Nat) (hN : X.N.Nodup) (hi : X.N[i]? = some x := by rfl) (hx : L2.Loc X.env.scope x := by first | exact Or.inl rfl | exact Or.inr rfl) (hf : X.fn x = true ∨ X.env.scope.names.lookup x = some .local := by first | exact .inl rfl | exact .inr rfl) : DG X (.Name x pos) [i] (gN i) :=
  pg_le (pg_name hN hi hx hf) fun v σ H Q ⟨H0, F0, F, env, p, r, hv, q⟩ => q _ (r.put (hv.orAtom (Same.refl F))) ⟨by simp, fun j hj => List.getElem?_set_ne fun z => hj (by simp [z])⟩
def gsN : FGs := fun _ ds env => match ds with
  | [] => .ok env
  | _ => .bad
def gsC (g : FG) (h : FGs) : FGs := fun n ds env => match ds with
  | d :: ds => (g (n, d) env).bind fun e => h n ds e
  | [] => .bad
theorem gs_nil : DGs X [] [] gsN := pgs_le pgs_nil fun vs σ H Q ⟨H0, F0, F, env, n, ds, r, hv, q⟩ => by
  cases hv with
  | nil => exact ⟨rfl, q σ r (But.refl _ _)⟩
  | cons _ _ => exact q.elim
theorem gs_cons {es : List Expr} {is js : List Nat} {g : FG} {h : FGs} (h1 : DG X e is g) (h2 : DGs X es js h) (hs : (assignEach (e :: es) X.env).map (·.2) = assign e X.env :: (assignEach es X.env).map (·.2) := by rfl) : DGs X (e :: es) (is ++ js) (gsC g h) :=
  pgs_le (pgs_cons h1 h2 hs) fun vs σ H Q ⟨H0, F0, F, env, n, ds, r, hv, q⟩ => by
    cases hv with
    | nil => exact q.elim
    | @cons v vs d ds a t =>
      refine ⟨v, vs, rfl, H0, F0, F, env, (n, d), r, a, ?_⟩
      unfold gsC at q
      exact Rs.post_mono (Rs.post_bind.mp q) (fun e1 he σ' r' b => ⟨H0, F0, F, e1, n, ds, r', t, Rs.post_mono he (fun _ y σ2 r2 c => y σ2 r2 (b.trans c)) fun _ _ y => y⟩) fun _ _ z => z
def gT (n : Nat) (g : FGs) : FG := fun p env => match p.2 with
  | .tuple ds => grd (decide (ds.length = n)) (g p.1 ds env)
  | _ => .bad
theorem g_tup {es : List Expr} {is : List Nat} {k : Nat} {n : Nat} {g : FGs} (hc : X.calm = true) (h : DGs X es is g) (h1 : (assignEach es X.env).length = n := by rfl)
    (h2 : (assignEach es X.env).findIdx? (fun x => x.1) = none := by rfl) : DG X (.Tuple es k pos) is (gT n g) :=
  pg_le (pg_tup hc h h1 h2) fun v σ H Q ⟨H0, F0, F, env, p, r, hv, q⟩ => by
    obtain ⟨m, d⟩ := p
    unfold gT at q
    dsimp only at q
    split at q
    · rename_i ds
      obtain ⟨hz, q⟩ := grd_post q
      cases hv with
      | tup hs ha => exact ⟨_, _, rfl, .inl (.inl (r.fz _ _ hs)), by rw [ha.length]; exact of_decide_eq_true hz, H0, F0, F, env, m, ds, r, ha, q⟩
    · exact q.elim
/-- a, b = e -/
def fAsg (g : FG) (f : FV) : FS := fun env => (f env).bind fun p => (g p.2 p.1).bind fun e => .ok (.nx e)
theorem s_asg {tg : Expr} {is : List Nat} {g : FG} (hg : ∀ p e e' x, g p e ≠ .ex e' x) (he : DE X W e f) (h : DG X tg is g) (h1 : swapsWithSole [tg] e pos.line X.env = pure false := by rfl) (h2 : swappedStores [tg] e X.env = pure none := by rfl)
    (h3 : (assignEach [tg] X.env).map (fun x => x.2) = [assign tg X.env] := by rfl) : DS X W (.Assign [tg] e pos) (fAsg g (st f)) :=
  ps_le (ps_asg he.d h h1 h2 h3) fun D σ H ⟨H0, F0, F, env, r, q⟩ => by
    refine ⟨H0, F0, F, env, r, ?_⟩
    unfold fAsg at q
    refine Rs.post_mono (Rs.post_bind.mp q) (fun p hp v F' H' r' hv e1 e2 => ?_) fun _ _ x => x.p (Same.refl F)
    refine ⟨H0, F0, F', p.1, p.2, r', hv, ?_⟩
    have hp := Rs.post_bind.mp hp
    cases z : g p.2 p.1 with
    | bad => rw [z] at hp; exact hp.elim
    | ok e1 => rw [z] at hp; exact fun σ' r2 _ => hp σ' F' H' r2 e2
    | ex e1 x => exact absurd z (hg _ _ _ _)
theorem gN_no {i : Nat} : ∀ p e e' x, gN i p e ≠ .ex e' x := fun _ _ _ _ h => nomatch h
theorem gsN_no : ∀ n ds e e' x, gsN n ds e ≠ .ex e' x := fun n ds e e' x h => by
  unfold gsN at h
  split at h <;> cases h
theorem gsC_no {g : FG} {h : FGs} (hg : ∀ p e e' x, g p e ≠ .ex e' x) (hh : ∀ n ds e e' x, h n ds e ≠ .ex e' x) : ∀ n ds e e' x, gsC g h n ds e ≠ .ex e' x := fun n ds e e' x q => by
  unfold gsC at q
  split at q
  · rename_i d ds
    cases z : g (n, d) e with
    | bad => rw [z] at q; cases q
    | ok e1 => rw [z] at q; exact hh _ _ _ _ _ q
    | ex e1 x => exact hg _ _ _ _ z
  · cases q
theorem gT_no {n : Nat} {g : FGs} (hh : ∀ n ds e e' x, g n ds e ≠ .ex e' x) : ∀ p e e' x, gT n g p e ≠ .ex e' x := fun p e e' x q => by
  unfold gT at q
  split at q
  · unfold grd at q
    split at q
    · exact hh _ _ _ _ _ q
    · cases q
  · cases q
/-- xs.append(e) -/
def fApp (i : Nat) (f : FV) : FS := fun env => match env[i]? with
  | some (some (.ow _ _)) => (f env).bind fun p => match p.1[i]? with
    | some (some (.ow n ds)) => grd (decide (ds.length < 1000000)) (.ok (.nx (p.1.set i (some (.ow (n && p.2.1) (ds ++ [p.2.2]))))))
    | _ => .bad
  | _ => .bad
theorem IsA.le1 {K : PySem.W.Frag} {H0 F : Hp} {n m : Bool} {xs : List V} {ds : List PyData} (h : IsA K H0 n F xs ds) : IsA K H0 (n && m) F xs ds := h.le (le_and (Same.refl F))
theorem Is.le2 {K : PySem.W.Frag} {H0 F : Hp} {n m : Bool} {x : V} {d : PyData} (h : Is K H0 m F x d) : Is K H0 (n && m) F x d := h.le (le_and' (Same.refl F))
theorem million {n : Nat} (h : n < 1000000) : n < sizeLine := Nat.lt_of_lt_of_le h (by decide)
theorem s_app (i : Nat) {apos cpos npos : Pos} (he : DE X W e f) (hi : X.N[i]? = some x := by rfl) (hv : Vis X.env.scope x := by first | exact Or.inl rfl | exact Or.inr (Or.inl rfl) | exact Or.inr (Or.inr rfl)) (hd : (x == ("__debug__" : Str)) = false := by decide) (hcd : (x == ("__classdict__" : Str)) = false := by decide)
    (hsw : swapsWith (.Call (.Attribute (.Name x npos) "append" apos) [e] [] cpos) none pos.line X.env = pure false := by rfl)
    (h1 : attributeBase (.Name x npos) "append" X.env (eval (.Name x npos) X.env) = eval (.Name x npos) X.env := by rfl)
    (h2 : (((backTo cpos (starEach [e] X.env)).all fun x => !x.1) && (backToKw cpos (keywordEach [] X.env)).all (fun x => x.1.isSome) && decide ([e].length + ([] : List Keyword).length + (if ([] : List Keyword).isEmpty = true then 0 else 1) < 30)) = true := by rfl)
    (h3 : (apos.endLine == cpos.line) = true := by rfl) (h4 : starEach [e] X.env = (false, eval e X.env) :: starEach [] X.env := by rfl) (h5 : (backTo cpos (starEach [] X.env)).any (fun x => x.1) = false := by rfl) :
    DS X W (.Expr (.Call (.Attribute (.Name x npos) "append" apos) [e] [] cpos) pos) (fApp i (st f)) :=
  ps_le (ps_expr (pe_bm PySem.F.plainAttrs_list PySem.F.slot_list_append PySem.F.type_list_append mt_append (pe_var hi hv hd hcd) (pa_cons he.d pa_nil h4) h1 h2 h3 h4 h5) hsw) fun D σ H ⟨H0, F0, F, env, r, q⟩ => by
    unfold fApp at q
    split at q
    · rename_i n0 ds0 h0
      obtain ⟨fp, rf⟩ := id r
      obtain ⟨v, hv, a, xs, rfl, k1, k2, k3⟩ := rf.sl i _ h0
      refine ⟨.ref a, hv, .inl ⟨rfl, xs, .inl (.inl k1)⟩, H0, F0, F, env, r, ?_⟩
      refine Rs.post_mono (Rs.post_bind.mp q) (fun p hp y F1 H1 r1 iy e1 e2 => ?_) fun _ _ x => x.p (Same.refl F)
      split at hp
      · rename_i n ds h1
        obtain ⟨hz, hp⟩ := grd_post hp
        have hz := of_decide_eq_true hz
        obtain ⟨fp1, rf1⟩ := id r1
        obtain ⟨v1, hv1, b, xs1, rfl, g1, g2, g3⟩ := rf1.sl i _ h1
        rw [hv] at hv1; cases hv1
        refine ⟨a, xs1, y, rfl, rfl, g1, million (by rw [g3.length]; exact hz), ?_⟩
        exact hp σ F1 _ (r1.mut (m := n && p.2.1) h1 hv (g3.le1.append (.cons (Is.le2 iy) .nil))).1 e2
      · exact hp.elim
    · exact q.elim
/-- xs[k] = e -/
def fPutIx (i : Nat) (fi : FV) (f : FV) : FS := fun env => (f env).bind fun p => match p.1[i]? with
  | some (some (.ow _ _)) => (fi p.1).bind fun q => match q.1[i]?, q.2.2 with
    | some (some (.ow n ds)), .int k => match ixN ds.length k with
      | some j => .ok (.nx (q.1.set i (some (.ow (n && p.2.1) (ds.set j p.2.2)))))
      | none => .bad
    | _, _ => .bad
  | _ => .bad
end
end
/-- xs[k] = e, xs a list that its slot alone holds -/
theorem s_putIx {X : Cx} {W : WX} {e : Expr} {f : FE} {pos : Pos} {x : Str} (i : Nat) {ei : Expr} {fi : FE} {npos spos : Pos} (hei : DE X W ei fi) (he : DE X W e f) (hi : X.N[i]? = some x := by rfl) (hv : Vis X.env.scope x := by first | exact Or.inl rfl | exact Or.inr (Or.inl rfl) | exact Or.inr (Or.inr rfl)) (hd : (x == ("__debug__" : Str)) = false := by decide) (hcd : (x == ("__classdict__" : Str)) = false := by decide)
    (h0 : ∀ v, assign (.Subscript (.Name x npos) ei spos) X.env v = (do
      let ov ← holding [v] (eval (.Name x npos) X.env)
      let iv ← holding [v, ov] (eval ei X.env)
      standAt spos
      holding [v, ov, iv] (setItem ov iv v)
      release [v, ov, iv] []) := by intro _; rfl)
    (h1 : swapsWithSole [.Subscript (.Name x npos) ei spos] e pos.line X.env = pure false := by rfl) (h2 : swappedStores [.Subscript (.Name x npos) ei spos] e X.env = pure none := by rfl)
    (h3 : (assignEach [.Subscript (.Name x npos) ei spos] X.env).map (fun x => x.2) = [assign (.Subscript (.Name x npos) ei spos) X.env] := by rfl) :
    DS X W (.Assign [.Subscript (.Name x npos) ei spos] e pos) (fPutIx i (rd fi) (st f)) :=
  ps_le (ps_asg he.d (pg_sub (pe_var hi hv hd hcd) hei.v set_list h0) h1 h2 h3) fun D σ H ⟨H0, F0, F, env, r, q⟩ => by
    refine ⟨H0, F0, F, env, r, ?_⟩
    unfold fPutIx at q
    refine Rs.post_mono (Rs.post_bind.mp q) (fun p hp y F1 H1 r1 iy e1 e2 => ?_) fun _ _ x => x.p (Same.refl F)
    split at hp
    · rename_i n0 ds0 h4
      obtain ⟨fp1, rf1⟩ := id r1
      obtain ⟨v1, hv1, b, xs1, rfl, g1, g2, g3⟩ := rf1.sl i _ h4
      refine ⟨.ref b, hv1, H0, F0, F1, p.1, r1, ?_⟩
      refine Rs.post_mono (Rs.post_bind.mp hp) (fun q hq z F2 H2 r2 iz e3 e4 => ?_) fun _ _ x => x.p e2
      split at hq
      · rename_i n ds k h5 h6
        obtain ⟨fp2, rf2⟩ := id r2
        obtain ⟨v2, hv2, c, xs2, rfl, k1, k2, k3⟩ := rf2.sl i _ h5
        rw [hv1] at hv2; cases hv2
        have hz : z = .int k := by
          rcases iz with iz | ⟨_, _, _, _, iz, _⟩
          · rw [h6] at iz; cases iz; rfl
          · rw [h6] at iz; cases iz
        split at hq
        · rename_i j hj
          refine ⟨b, xs2, k, j, rfl, hz, k1, by rw [k3.length]; exact hj, ?_⟩
          exact hq σ F2 _ (r2.mut (m := n && p.2.1) h5 hv1 (k3.le1.set (Is.le2 (iy.to e4)) j)).1 (e2.trans e4)
        · exact hq.elim
      · exact hq.elim
    · exact hp.elim
def Good (K : PySem.W.Frag) (H0 F : Hp) (J : It) (ps : List Dv) : Prop := ∀ i F' H', Same F F' → Same F' H' →
  (∀ p, ps[i]? = some p → J.go i H' ∧ ∀ x H3, J.yld i H' x H3 → ∃ F3, Ext F' H' F3 H3 ∧ Is K H0 p.1 F3 x p.2) ∧ (ps.length ≤ i → J.stop i H')
def tI (K : PySem.W.Frag) (mg : Str → Option Value) (W : WX) (f : FA) : TI := fun σ H Q => ∃ H0 F0 F env, Rel K H0 F0 env σ F H ∧
  (f env).post (fun p => ∀ J F' H', Rel K H0 F0 p.1 σ F' H' → Good K H0 F' J p.2 → Same H H' → Same F F' → Q J H') (ExP K mg W H0 F0 F H σ)
abbrev DI (X : Cx) (W : WX) (tg it : Expr) (f : FA) : Prop := PI X tg it (tI X.K X.mg W f)
theorem pi_le {X : Cx} {tg it : Expr} {t t' : TI} (h : PI X tg it t) (l : ∀ σ H Q, t' σ H Q → t σ H Q) : PI X tg it t' := ⟨fun pins s σ H Q I q => h.run pins s σ H Q I (l σ H Q q)⟩
/-- a list, a tuple, a text -/
def iSeq (K : PySem.W.Frag) (tl : TE) : TI := fun σ H R => tl σ H fun x H1 => (∃ a, x = .ref a ∧ (∃ xs, SqL K H1 a xs) ∧ R (Itl K a) H1) ∨ (∃ a, x = .ref a ∧ (∃ xs, SqT K H1 a xs) ∧ R (Itt K a) H1) ∨ (∃ y, x = .str y ∧ R (Its y) H1)
theorem pi_seq {X : Cx} {tg l : Expr} {tl : TE} (hl : PE X l tl) : PI X tg l (iSeq X.K tl) := by
  refine ⟨fun pins s σ H R I h => ?_⟩
  refine thn (hl.run pins s σ H _ I h) fun v s1 ⟨x, H1, I1, r1, q1⟩ => ?_
  rcases q1 with ⟨a, e, ⟨xs, hq⟩, q⟩ | ⟨a, e, ⟨xs, hq⟩, q⟩ | ⟨y, ex, q⟩
  · subst e
    cases r1
    obtain ⟨its, rv, p, hz⟩ := I1.list hq
    refine wpAny_pyIter_list p.isList ?_
    refine ⟨s1.heap.objs.size, [s1.heap.objs.size], _, _, H1, rfl, I1.kept (t' := s1.toks) fun b o e => Heap.get?_push_of_some _ e, turn_list a _, ⟨_, Heap.get?_push_size _ rfl, rfl, rfl⟩, fun b hb => ?_, q⟩
    have e : b = s1.heap.objs.size := by simpa using hb
    subst e
    exact I1.fpOk (Nat.le_refl _) (I1.hok.fresh (Nat.le_refl _))
  · subst e
    cases r1
    obtain ⟨its, rv, p, hz⟩ := I1.tuple hq
    refine wpAny_pyIter_tuple (show s1.heap.IsTuple a its.toArray from p) ?_
    refine ⟨s1.heap.objs.size, [s1.heap.objs.size], _, _, H1, rfl, I1.kept (t' := s1.toks) fun b o e => Heap.get?_push_of_some _ e, turn_tuple a _, ⟨_, Heap.get?_push_size _ rfl, rfl, rfl⟩, fun b hb => ?_, q⟩
    have e : b = s1.heap.objs.size := by simpa using hb
    subst e
    exact I1.fpOk (Nat.le_refl _) (I1.hok.fresh (Nat.le_refl _))
  · subst ex
    obtain ⟨t, rfl⟩ := r1
    cases ha : y.cps.all (· < 128)
    · exact wpAny_pyIter_wide ha (pi_one (tk := s1.toks) I1 _ (turn_str _ y t "str_iterator" (.inr rfl)) ⟨_, Heap.get?_push_size _ rfl, rfl, rfl⟩ q)
    · exact wpAny_pyIter_ascii ha (pi_one (tk := s1.toks) I1 _ (turn_str _ y t "str_ascii_iterator" (.inl rfl)) ⟨_, Heap.get?_push_size _ rfl, rfl, rfl⟩ q)
def fIt (f : FV) : FA := fun env => (f env).bind fun p => match p.2.2 with
  | .list ds => .ok (p.1, ds.map fun d => (p.2.1, d))
  | .tuple ds => .ok (p.1, ds.map fun d => (p.2.1, d))
  | .str x => .ok (p.1, x.cps.toList.map fun c => (true, .str ⟨#[c]⟩))
  | _ => .bad
section
variable {K : PySem.W.Frag} {H0 F H : Hp}
theorem good_list {a : Addr} {xs : List V} {ds : List PyData} {n : Bool} (h : SqL K F a xs) (hi : IsA K H0 n F xs ds) : Good K H0 F (Itl K a) (ds.map fun d => (n, d)) := fun i F' H' e1 e2 => by
  have hs : SqL K H' a xs := Same.seq (e1.trans e2) h
  refine ⟨fun p hp => ?_, fun hl => ⟨xs, hs, by rw [hi.length]; simpa using hl⟩⟩
  rw [List.getElem?_map] at hp
  cases q : ds[i]? with
  | none => rw [q] at hp; cases hp
  | some d =>
    rw [q] at hp; cases hp
    obtain ⟨v, hv, hd⟩ := hi.get q
    refine ⟨⟨xs, v, hs, hv⟩, fun x H3 hy => ?_⟩
    obtain ⟨rfl, hx⟩ := hy
    have := hx xs hs
    rw [hv] at this; cases this
    exact ⟨F', Ext.refl e2, hd.to e1⟩
theorem good_tup {a : Addr} {xs : List V} {ds : List PyData} {n : Bool} (h : SqT K F a xs) (hi : IsA K H0 n F xs ds) : Good K H0 F (Itt K a) (ds.map fun d => (n, d)) := fun i F' H' e1 e2 => by
  have hs : SqT K H' a xs := same_t (e1.trans e2) h
  refine ⟨fun p hp => ?_, fun hl => ⟨xs, hs, by rw [hi.length]; simpa using hl⟩⟩
  rw [List.getElem?_map] at hp
  cases q : ds[i]? with
  | none => rw [q] at hp; cases hp
  | some d =>
    rw [q] at hp; cases hp
    obtain ⟨v, hv, hd⟩ := hi.get q
    refine ⟨⟨xs, v, hs, hv⟩, fun x H3 hy => ?_⟩
    obtain ⟨rfl, hx⟩ := hy
    have := hx xs hs
    rw [hv] at this; cases this
    exact ⟨F', Ext.refl e2, hd.to e1⟩
theorem good_str {x : Str} : Good K H0 F (Its x) (x.cps.toList.map fun c => (true, .str ⟨#[c]⟩)) := fun i F' H' e1 e2 => by
  refine ⟨fun p hp => ?_, fun hl => by simpa [Its] using hl⟩
  rw [List.getElem?_map] at hp
  cases q : x.cps.toList[i]? with
  | none => rw [q] at hp; cases hp
  | some c =>
    rw [q] at hp; cases hp
    have hi : i < x.cps.toList.length := (List.getElem?_eq_some_iff.mp q).1
    refine ⟨by simpa [Its] using hi, fun y H3 hy => ?_⟩
    obtain ⟨rfl, c', hc, rfl⟩ := hy
    rw [← Array.getElem?_toList, q] at hc; cases hc
    exact ⟨F', Ext.refl e2, .str _⟩
theorem good_range {lo : Int} {n : Nat} : Good K H0 F (Itr lo n) ((List.range n).map fun (i : Nat) => (true, .int (lo + i))) := fun i F' H' e1 e2 => by
  refine ⟨fun p hp => ?_, fun hl => by simpa [Itr] using hl⟩
  rw [List.getElem?_map] at hp
  by_cases hi : i < n
  · rw [List.getElem?_range hi] at hp; cases hp
    refine ⟨hi, fun y H3 hy => ?_⟩
    obtain ⟨rfl, rfl⟩ := hy
    exact ⟨F', Ext.refl e2, .int _⟩
  · rw [List.getElem?_eq_none (by simpa using hi)] at hp; cases hp
end
section
variable {X : Cx} {W : WX} {e a b : Expr} {f fa fb : FE} {tg : Expr} {p pos : Pos}
theorem i_seq (h : DE X W e f) : DI X W tg e (fIt (st f)) := pi_le (pi_seq h.d) fun σ H Q ⟨H0, F0, F, env, r, q⟩ => by
  refine ⟨H0, F0, F, env, r, ?_⟩
  unfold fIt at q
  refine Rs.post_mono (Rs.post_bind.mp q) (fun p hp v F' H' r' hv e1 e2 => ?_) fun _ _ x => x
  obtain ⟨e', n, d⟩ := p
  dsimp only at hp hv
  split at hp
  · rename_i ds
    cases hv with
    | lst hs _ ha => exact .inl ⟨_, rfl, ⟨_, Same.seq r'.fz hs⟩, hp _ F' H' r' (good_list hs ha) e1 e2⟩
  · rename_i ds
    cases hv with
    | tup hs ha => exact .inr (.inl ⟨_, rfl, ⟨_, .inl (.inl (r'.fz _ _ hs))⟩, hp _ F' H' r' (good_tup (.inl (.inl hs)) ha) e1 e2⟩)
  · cases hv
    exact .inr (.inr ⟨_, rfl, hp _ F' H' r' good_str e1 e2⟩)
  · exact hp.elim
def small (i : Int) : Bool := decide (-(2 ^ 62) ≤ i) && decide (i < 2 ^ 62)
def fRg1 (f : FA) : FA := fun env => (f env).bind fun p => match p.2 with
  | [(_, .int j)] => grd (small j) (.ok (p.1, (List.range j.toNat).map fun (i : Nat) => (true, .int (0 + i))))
  | _ => .bad
def fRg2 (f : FA) : FA := fun env => (f env).bind fun p => match p.2 with
  | [(_, .int i), (_, .int j)] => grd (small i && small j) (.ok (p.1, (List.range (j - i).toNat).map fun (k : Nat) => (true, .int (i + k))))
  | _ => .bad
theorem vw_int {K : PySem.W.Frag} {H0 F H : Hp} {v : V} {n : Bool} {i : Int} (h : Vw K H0 F H v (n, .int i)) : v = .int i := by
  rcases h with h | ⟨_, _, _, _, h, _⟩
  · cases h; rfl
  · cases h
theorem small_iff {i : Int} (h : small i = true) : -(2 ^ 62) ≤ i ∧ i < 2 ^ 62 := by
  unfold small at h
  rw [Bool.and_eq_true, decide_eq_true_iff, decide_eq_true_iff] at h
  exact h
theorem i_range1 {g : FA} (hg : Gl X "range") (hm : X.mg "range" = none) (h : DAV X W [a] g) (hs : starEach [a] X.env = [(false, eval a X.env)] := by rfl) : DI X W tg (.Call (.Name "range" p) [a] [] pos) (fRg1 g) :=
  pi_le (pi_range1 hg hm h hs) fun σ H Q ⟨H0, F0, F, env, r, q⟩ => by
    refine ⟨H0, F0, F, env, r, ?_⟩
    unfold fRg1 at q
    refine Rs.post_mono (Rs.post_bind.mp q) (fun p hp vs F' H' r' hv e1 e2 => ?_) fun _ _ x => x
    obtain ⟨e', ps⟩ := p
    dsimp only at hp hv
    split at hp
    · rename_i n j
      obtain ⟨hz, hp⟩ := grd_post hp
      obtain ⟨z1, z2⟩ := small_iff hz
      cases hv with
      | cons h1 h2 =>
        cases h2
        rw [vw_int h1]
        exact ⟨j, rfl, z1, z2, hp _ F' H' r' good_range e1 e2⟩
    · exact hp.elim
theorem i_range2 {g : FA} (hg : Gl X "range") (hm : X.mg "range" = none) (h : DAV X W [a, b] g) (hs : starEach [a, b] X.env = [(false, eval a X.env), (false, eval b X.env)] := by rfl) (hs2 : starEach [b] X.env = [(false, eval b X.env)] := by rfl) : DI X W tg (.Call (.Name "range" p) [a, b] [] pos) (fRg2 g) :=
  pi_le (pi_range2 hg hm h hs hs2) fun σ H Q ⟨H0, F0, F, env, r, q⟩ => by
    refine ⟨H0, F0, F, env, r, ?_⟩
    unfold fRg2 at q
    refine Rs.post_mono (Rs.post_bind.mp q) (fun p hp vs F' H' r' hv e1 e2 => ?_) fun _ _ x => x
    obtain ⟨e', ps⟩ := p
    dsimp only at hp hv
    split at hp
    · rename_i n i m j
      obtain ⟨hz, hp⟩ := grd_post hp
      obtain ⟨y1, y2⟩ := Bool.and_eq_true_iff.mp hz
      obtain ⟨z1, z2⟩ := small_iff y1
      obtain ⟨z3, z4⟩ := small_iff y2
      cases hv with
      | cons h1 h2 =>
        cases h2 with
        | cons h2 h3 =>
          cases h3
          rw [vw_int h1, vw_int h2]
          exact ⟨i, j, rfl, ⟨z1, z2, z3, z4⟩, hp _ F' H' r' good_range e1 e2⟩
    · exact hp.elim
def fLoop (g : FG) (body : FS) : List Dv → Env → Rs Out
  | [], e => .ok (.nx e)
  | x :: xs, e => (g x e).bind fun e1 => (body e1).bind fun o => match o with
    | .nx e2 => fLoop g body xs e2
    | .ct e2 => fLoop g body xs e2
    | .bk e2 => .ok (.nx e2)
    | .rt r => .ok (.rt r)
def fFor (it : FA) (g : FG) (body : FS) : FS := fun env => (it env).bind fun p => fLoop g body p.2 p.1
theorem bind_noex {α β : Type} {r : Rs α} {k : α → Rs β} {P : β → Prop} {E : Env → Exn → Prop} (hr : ∀ e x, r ≠ .ex e x) (h : (r.bind k).post P E) : r.post (fun a => (k a).post P E) fun _ _ => False := by
  cases r with
  | bad => exact h
  | ok a => exact h
  | ex e x => exact absurd rfl (hr e x)
theorem s_for {it : Expr} {is : List Nat} {fi : FA} {g : FG} {body : FS} {bs : List Stmt} (hp : PassesOwn (model X.prog X.w) X.A X.env X.xe) (hc : X.calm = true) (hi : DI X W tg it fi) (hg : DG X tg is g) (hgn : ∀ p e e' x, g p e ≠ .ex e' x) (hb : DSs X W bs body)
    (hs : ∀ x, foldedSetIterable it X.env x = pure x := by intro _; rfl) : DS X W (.For tg it bs [] pos) (fFor fi g body) :=
  ps_le (ps_for hp hc hi hg hb hs) fun D σ H ⟨H0, F0, F, env, r, q⟩ => by
    refine ⟨H0, F0, F, env, r, ?_⟩
    unfold fFor at q
    refine Rs.post_mono (Rs.post_bind.mp q) (fun p hp J F1 H1 r1 good e1 e2 => ?_) fun _ _ x => x.p (Same.refl F)
    obtain ⟨env1, ps⟩ := p
    dsimp only at hp r1 good
    refine ⟨fun i m σ' H' => ∃ F2 e, Rel X.K H0 F0 e σ' F2 H' ∧ Same F1 F2 ∧ m = ps.length - i ∧ (fLoop g body (ps.drop i) e).post (OutP X.K H0 F0 F2 D) (ExS X.K X.mg W H0 F0 F2),
      ⟨ps.length, F1, env1, r1, Same.refl F1, by omega, by simpa using Rs.post_mono hp (fun _ z => z.to e2) fun _ _ z => z.to e2⟩, fun i m σ' H' hw => ?_⟩
    obtain ⟨F2, e, r2, s2, em, q2⟩ := hw
    obtain ⟨g1, g2⟩ := good i F2 H' s2 r2.fz
    by_cases hi : i < ps.length
    · rw [List.drop_eq_getElem_cons hi] at q2
      obtain ⟨go, yld⟩ := g1 ps[i] (List.getElem?_eq_getElem hi)
      refine .inr ⟨go, fun σ3 H3 => ∃ F3 e3, Rel X.K H0 F0 e3 σ3 F3 H3 ∧ Same F1 F3 ∧ (fLoop g body (ps.drop (i + 1)) e3).post (OutP X.K H0 F0 F3 D) (ExS X.K X.mg W H0 F0 F3), fun σ3 H3 hn => ?_, fun x H3 hy => ?_⟩
      · obtain ⟨F3, e3, r3, s3, q3⟩ := hn
        exact ⟨ps.length - (i + 1), by omega, F3, e3, r3, s3, rfl, q3⟩
      · obtain ⟨F3, ex, ix⟩ := yld x H3 hy
        refine ⟨H0, F0, F3, e, ps[i], r2.ext ex, ix, ?_⟩
        unfold fLoop at q2
        refine Rs.post_mono (bind_noex (hgn _ _) q2) (fun e1 h1 σ4 r4 _ => ?_) fun _ _ z => z
        refine ⟨H0, F0, F3, e1, r4, ?_⟩
        refine Rs.post_mono (Rs.post_bind.mp h1) (fun o ho => ?_) fun _ _ z => z.to ex.f
        cases o with
        | nx e2 => exact fun σ5 F5 H5 r5 s5 => ⟨F5, e2, r5, (s2.trans ex.f).trans s5, Rs.post_mono ho (fun _ z => z.to (ex.f.trans s5)) fun _ _ z => z.to (ex.f.trans s5)⟩
        | ct e2 => exact fun σ5 F5 H5 r5 s5 => ⟨F5, e2, r5, (s2.trans ex.f).trans s5, Rs.post_mono ho (fun _ z => z.to (ex.f.trans s5)) fun _ _ z => z.to (ex.f.trans s5)⟩
        | bk e2 => exact fun σ5 F5 H5 r5 s5 => ho σ5 F5 H5 r5 (ex.f.trans s5)
        | rt r => exact fun v F5 H5 s5 => ho v F5 H5 (ex.f.trans s5)
    · refine .inl ⟨g2 (by omega), ?_⟩
      rw [List.drop_eq_nil_of_le (by omega)] at q2
      exact q2 σ' F2 H' r2 (Same.refl F2)
/-- if -/
def fIfS (t : FT) (g h : FS) : FS := fun env => (t env).bind fun b => if b = true then g env else h env
theorem s_if {c : Expr} {t : FT} {g h : FS} {as bs : List Stmt} (hc : DT X W c t) (ha : DSs X W as g) (hb : DSs X W bs h) : DS X W (.If c as bs pos) (fIfS t g h) :=
  ps_le (ps_if hc ha hb) fun D σ H ⟨H0, F0, F, env, r, q⟩ => by
    refine ⟨H0, F0, F, env, r, ?_⟩
    unfold fIfS at q
    refine Rs.post_mono (Rs.post_bind.mp q) (fun d hd H' r' e => ?_) fun _ _ x => x.p (Same.refl F)
    cases d with
    | true => exact ⟨H0, F0, F, env, r', hd⟩
    | false => exact ⟨H0, F0, F, env, r', hd⟩
end
end Dn
namespace Dn
open PySem PySem.Spec L2
abbrev SF := List PyData → Rs R
/-- a def's promise: its value is S of its arguments' data -/
def spD (K : PySem.W.Frag) (mg : Str → Option Value) (n : Nat) (S : SF) : Sp := fun vs H Q E => ∃ F ps, vs.length = n ∧ Same F H ∧ IsA K H false F vs ps ∧
  (S ps).post (fun res => ∀ v F' H', Ext F H F' H' → VRes K H H F' H' v res → Q v H') (fun _ x => ∀ cls dO H', Same H H' → exnIs mg x cls dO H' → E cls dO H')
structure FnG (P : Program) (w : World) (K : PySem.W.Frag) (mg : Str → Option Value) (base : Heap) (k : Nat) (f : Addr) (fd : FuncData) (ps : List Str) (S : SF) : Prop where
  run : ∀ (A : Around) (outer : List PySem.Env) (s : Shared) (H : Hp) (args : Args) (us : List Value) (vs : List V) (Q : VK) (E : XK), Room k A → A.guards = some [] → Env0 P w K mg base A outer s H → BindsTo s fd args (ps.zip us) → Vals vs us →
    spD K mg ps.length S vs H Q E → codeAny (model P w) A (.call (.ref f) args) (CR (L2.CX P w) outer P w H s Q E) s
  len : ∀ ds, ds.length ≠ ps.length → S ds = .bad
theorem FnG.mono {P : Program} {w : World} {K : PySem.W.Frag} {mg : Str → Option Value} {base : Heap} {j k : Nat} {f : Addr} {fd : FuncData} {ps : List Str} {S : SF} (F : FnG P w K mg base j f fd ps S) (h : j ≤ k) : FnG P w K mg base k f fd ps S :=
  ⟨fun A outer s H args us vs Q E hr hg => F.run A outer s H args us vs Q E (hr.mono h) hg, F.len⟩
/-- the slots at the entry -/
def envOf (N np : Nat) (ds : List PyData) : Env := (ds.map fun d => some (.sh (atom d) d)) ++ List.replicate (N - np) none
/-- a body as a function of its arguments -/
def runF (N np : Nat) (body : FS) : SF := fun ds => grd (decide (ds.length = np)) ((body (envOf N np ds)).bind fun o => match o with
  | .rt (.sh n d) => .ok (.sh n d)
  | .rt (.nw n ds) => .ok (.nw n ds)
  | .nx _ => .ok (.sh true .none)
  | _ => .bad)
theorem rel_start {K : PySem.W.Frag} {F H : Hp} {N : List Str} {np : Nat} {vs : List V} {ps : List PyData} (h : Same F H) (hl : vs.length = np) (hN : np ≤ N.length) (ha : IsA K H false F vs ps) : Rel K H F (envOf N.length np ps) (L2.start N vs) F H := by
  have hps : ps.length = np := by rw [← ha.length, hl]
  refine ⟨fun _ _ => False, ⟨h, Same.refl H, ?_, fun i s q => ?_, fun _ _ _ z => z.elim, fun _ _ z => z.elim, fun _ z => .inl z, Same.refl F⟩⟩
  · unfold L2.start envOf
    simp [hl, hps]
  · unfold envOf at q
    by_cases hi : i < ps.length
    · rw [List.getElem?_append_left (by simpa using hi), List.getElem?_map] at q
      cases z : ps[i]? with
      | none => rw [z] at q; cases q
      | some p =>
        rw [z] at q
        have q' : Sl.sh (atom p) p = s := Option.some.inj (Option.some.inj q)
        subst q'
        obtain ⟨v, h1, h2⟩ := ha.get z
        refine ⟨v, ?_, ?_⟩
        · unfold L2.start
          rw [List.getElem?_append_left (by simp; omega), List.getElem?_map, h1]; rfl
        · show Is K H (atom p) F v p
          cases y : atom p with
          | true => exact Is.atom h2 y
          | false => exact Is.weak h2 (Same.refl F)
    · rw [List.getElem?_append_right (by simpa using hi), List.getElem?_replicate] at q
      split at q <;> cases q
section
variable {P : Program} {w : World} {K : PySem.W.Frag} {mg : Str → Option Value} {base : Heap}
/-- what leaves a body, as what leaves the def -/
abbrev WL (E : XK) : WX := fun cls d _ H => E cls d H
theorem fn_d {x qual : Str} {st : Stmt} {f : Addr} {fd : FuncData} {N ps : List Str} {k : Nat} {fb : FS} (F : Fun K x qual st f fd) (S : FnScope N ps (defScope st))
    (hbody : ∀ (cdv : Value) (A : Around) (outer : List PySem.Env) (s : Shared) (H : Hp) (E : XK), Room k (A.deeper (PyProof.Rows.envOfC qual (defScope st) s.heap.objs.size f cdv)) → (A.deeper (PyProof.Rows.envOfC qual (defScope st) s.heap.objs.size f cdv)).guards = some [] →
      DSs (cxOf (L2.CX P w) P w K mg base N qual (defScope st) f cdv A outer s H E) (WL E) (defBody st) fb) : FnG P w K mg base (k + 1) f fd ps (runF N.length ps.length fb) := by
  obtain ⟨oc, od, kV, doc, pm, an, cdv, ct, osl, rfl, lk, hcd⟩ := F.ex
  refine ⟨fun A outer s H args us vs Q E hr hg e0 hb r hsp => ?_, fun ds h => by unfold runF grd; rw [if_neg (by simpa using h)]⟩
  obtain ⟨Fh, qs, hl, hF, ha, hpost⟩ := hsp
  have hql : qs.length = ps.length := by rw [← ha.length, hl]
  have keepB : ∀ b o, base.get? b = some o → s.heap.get? b = some o := fun b o e => (e0.bs b o e).1
  have KX : K.In s.heap := e0.mod.kin.keeps keepB
  have lim : s.heap.NoLimit := e0.mod.nolimit.keeps keepB
  have hkind : ∀ y ∈ ps.zip us, (defScope st).names.lookup y.1 = some .local ∨ ((defScope st).names.lookup y.1 = some .cell ∧ ((cellsFrom (s.heap.objs.size + 1) (defScope st).names []).lookup y.1).isSome = true) := fun y hy =>
    (S.par y.1 (List.of_mem_zip (a := y.1) (b := y.2) hy).1).imp_right fun q => ⟨q, PySem.W.cellsFrom_some _ _ _ (.inl q)⟩
  refine codeAny_call_function (hr.depth) (KX _ _ lk) rfl S.co S.gen rfl (PySem.W.codeRec_of KX hcd) (hb _ _ _ _ (wpAny_newFunctionEnv_cells S.kind hkind fun env he s1 xx => ?_))
  subst he
  refine ⟨lim.keeps xx.toInCall.keep, codeAny_func ?_⟩
  have hN : ps.length ≤ N.length := by have := congrArg List.length S.pre; rw [List.length_take] at this; omega
  have I := inv_start (CX := L2.CX P w) (mg := mg) (K := K) (P := P) (w := w) (E := E) S hr.hd e0 hl r xx
  have body := hbody cdv A outer s H E (hr.deeper _) hg
  unfold runF at hpost
  obtain ⟨_, hpost⟩ := grd_post hpost
  have hpost := Rs.post_bind.mp hpost
  have hq : tS K mg (WL E) fb { nx := fun _ H' => Q .non H', rt := Q } (L2.start N vs) H := ⟨H, Fh, Fh, _, rel_start hF hl hN ha, Rs.post_mono hpost (fun o ho => by
    cases o with
    | nx e => exact fun σ' F' H' r' e2 => ho .non F' H' ⟨e2, r'.base, r'.fz, rel_new r'⟩ .non
    | rt q =>
      cases q with
      | sh n d => exact fun v F' H' h1 h2 h3 h4 h5 => ho v F' H' ⟨h1, h3, h2, h4⟩ h5
      | nw n d => exact fun v F' H' h1 h2 h3 h4 h5 => ho v F' H' ⟨h1, h3, h2, h4⟩ h5
      | own i => exact ho.elim
    | bk e => exact ho.elim
    | ct e => exact ho.elim) fun e x hx cls dO σ F' H' r' _ z => hx cls dO H' r'.base z⟩
  refine wpAny_mono (body.run [] s1 (L2.start N vs) H _ I hq) (fun fl s' hs => ?_) fun _ _ z => z
  cases fl with
  | ret u =>
    obtain ⟨v, σ', H', J, rv, q⟩ := hs
    exact ⟨v, H', J.os, J.bare, J.base, J.hok, rv, q⟩
  | next =>
    obtain ⟨σ', H', J, q⟩ := hs
    exact ⟨V.non, H', J.os, J.bare, J.base, J.hok, rfl, q⟩
  | brk => exact (let ⟨_, _, _, q⟩ := hs; q : False).elim
  | cont => exact (let ⟨_, _, _, q⟩ := hs; q : False).elim
end
section
variable {X : Cx} {W : WX} {k : Nat} {f : Addr} {fd : FuncData} {ps ks : List Str} {S : SF} {x : Str} {p pos : Pos} {e : Expr} {es : List Expr} {fa fk : FA}
theorem run_g {pins : List (Addr × Obj)} {σ : St} {H : Hp} {s : Shared} {Q : VK} {args : Args} {us : List Value} {vs : List V} (G : FnG X.prog X.w X.K X.mg X.base k f fd ps S) (hr : Room k X.A) (hg : X.A.guards = some []) (tk : Takes X W)
    (hb : BindsTo s fd args (ps.zip us)) (I : L2.Inv X pins σ H s) (r : Vals vs us) (h : spD X.K X.mg ps.length S vs H Q (fun cls d H' => W cls d σ H')) : wpAny (model X.prog X.w) X.A (call (.ref f) args.pos args.kw) (EP X pins σ Q) X.xe s :=
  wpAny_call (codeAny_mono (G.run X.A X.stack s H args us vs Q _ hr hg I.env0 hb r h) fun res s' hq => by
    cases res with
    | error e => exact passAt tk σ pins H s e s' I hq
    | ok fl =>
      cases fl with
      | ret u => exact I.after hq
      | next => exact (hq : False).elim
      | brk => exact (hq : False).elim
      | cont => exact (hq : False).elim)
/-- f(e, ..) -/
def fCall (S : SF) (f : FA) : FE := fun env => (f env).bind fun p => match S (p.2.map fun d => d.2) with
  | .ok (.sh n d) => .ok (p.1, .sh n d)
  | .ok (.nw n ds) => .ok (p.1, .nw n ds)
  | .ex _ x => .ex p.1 x
  | _ => .bad
theorem VRes.base {K : PySem.W.Frag} {H0 H F' H' : Hp} {v : V} {r : R} (h : VRes K H H F' H' v r) (e : Same H0 H) : VRes K H0 H F' H' v r := by
  have l : ∀ n, Le H F' n H0 F' n := fun n => ⟨Same.refl F', id, fun _ a _ z => same_none e z⟩
  cases r with
  | sh n d => exact Is.le (l n) h
  | nw n ds =>
    obtain ⟨q, xs, h1, h2, h3, h4, h5⟩ := h
    exact ⟨q, xs, h1, h2, h3, h4, h5.le (l n)⟩
  | own i => exact h
theorem isA_weak {K : PySem.W.Frag} {H0 H F : Hp} : ∀ {vs : List V} {ps : List Dv}, All2 (IsV K H0 F H) vs ps → IsA K H false F vs (ps.map fun d => d.2)
  | _, _, .nil => .nil
  | _, _, .cons h t => .cons (Is.weak h (Same.refl F)) (isA_weak t)
/-- all arguments in hand, the def's promise -/
theorem call_post {σ : St} {H : Hp} {Q : VK} {f : List V → Hp → Prop} {n : Nat} (hlen : ∀ ds, ds.length ≠ n → S ds = .bad) (h : tE X.K X.mg W (fCall S fa) σ H Q)
    (hf : ∀ vs H', spD X.K X.mg n S vs H' Q (fun cls d H'' => W cls d σ H'') → f vs H') : tAD X.K X.mg W fa σ H f := by
  obtain ⟨H0, F0, F, env, r, q⟩ := h
  refine ⟨H0, F0, F, env, r, ?_⟩
  unfold fCall at q
  refine Rs.post_mono (Rs.post_bind.mp q) (fun p hp vs F1 H1 r1 ha e1 e2 => ?_) fun _ _ z => z
  have hS : S (p.2.map fun d => d.2) ≠ .bad := fun z => by rw [z] at hp; exact hp.elim
  have hl : (p.2.map fun d => d.2).length = n := by
    by_cases y : (p.2.map fun d => d.2).length = n
    · exact y
    · exact absurd (hlen _ y) hS
  refine hf vs H1 ⟨F1, p.2.map fun d => d.2, by rw [ha.length]; simpa using hl, r1.fz, isA_weak ha, ?_⟩
  cases z : S (p.2.map fun d => d.2) with
  | bad => exact absurd z hS
  | ok res =>
    rw [z] at hp
    cases res with
    | sh n d => exact fun v F' H' ex hv => hp v F' H' ((hv.base r1.base).rel r1 ex) (e1.trans ex.h) (e2.trans ex.f)
    | nw n d => exact fun v F' H' ex hv => hp v F' H' ((hv.base r1.base).rel r1 ex) (e1.trans ex.h) (e2.trans ex.f)
    | own i => exact hp.elim
  | ex e x =>
    rw [z] at hp
    exact fun cls dO H' e3 hx => hp cls dO F1 H' (r1.heap e3) (e1.trans e3) e2 hx
theorem d_call (G : FnG X.prog X.w X.K X.mg X.base k f fd ps S) (hr : Room k X.A) (hgd : X.A.guards = some []) (tk : Takes X W) (hg : Gl X x) (hm : X.mg x = some (.ref f)) (hk : PySem.W.keepIn X.K (.ref f) = true) (hb : Binds X.K fd ps [])
    (ha : DAD X W (e :: es) fa) (hdb : (x == ("__debug__" : Str)) = false := by decide) (he : starEach (e :: es) X.env = (false, eval e X.env) :: starEach es X.env := by rfl) (hpl : (backTo pos (starEach es X.env)).any (·.1) = false := by rfl) :
    DE X W (.Call (.Name x p) (e :: es) [] pos) (fCall S fa) := by
  refine ⟨fun pins s σ H Q I h => wpAny_Call_Name_kw (ld_glob I hg hm ?_ hdb)⟩
  refine PySem.W.callWith_K (h₀ := X.base) I.ok.mod.kin hk (thn (ha.run pos pins s σ H _ I (call_post (f := fun vs H' => spD X.K X.mg ps.length S vs H' Q fun cls d H'' => W cls d σ H'') G.len h fun _ _ z => z)) fun us s1 hv => ?_) he hpl
  obtain ⟨vs, H1, I1, rv, q⟩ := hv
  have hl : us.length = ps.length := by rw [← rv.length]; exact let ⟨_, _, z, _⟩ := q; z
  have b := hb s1 us I1.kIn (by rw [List.append_nil]; exact hl)
  rw [List.append_nil] at b
  exact ⟨I1.kIn, run_g G hr hgd tk b I1 rv q⟩
theorem d_call0 (G : FnG X.prog X.w X.K X.mg X.base k f fd ps S) (hr : Room k X.A) (hgd : X.A.guards = some []) (tk : Takes X W) (hg : Gl X x) (hm : X.mg x = some (.ref f)) (hk : PySem.W.keepIn X.K (.ref f) = true) (hb : Binds X.K fd ps [])
    (hdb : (x == ("__debug__" : Str)) = false := by decide) : DE X W (.Call (.Name x p) [] [] pos) (fCall S fNil) := by
  refine ⟨fun pins s σ H Q I h => wpAny_Call_Name_kw (ld_glob I hg hm ?_ hdb)⟩
  have q := call_post (f := fun vs H' => vs = [] → spD X.K X.mg ps.length S vs H' Q fun cls d H'' => W cls d σ H'') G.len h fun _ _ z _ => z
  obtain ⟨H0, F0, F, env, r, q⟩ := q
  have q := q [] F H r .nil (Same.refl H) (Same.refl F) rfl
  have hl : ([] : List Value).length = ps.length := let ⟨_, _, z, _⟩ := q; z
  have b := hb s [] I.kIn (by rw [List.append_nil]; exact hl)
  rw [List.append_nil] at b
  exact PySem.W.callWith_K0 I.kIn hk (run_g (args := ⟨[], []⟩) G hr hgd tk b I .nil q)
end
def wipeE (env : Env) : List Nat → Env
  | [] => env
  | i :: is => (wipeE env is).set i none
/-- the comprehension's own slots as they were -/
def backE (env1 env : Env) : List Nat → Env
  | [] => env
  | i :: is => (backE env1 env is).set i (env1.getD i none)
def okOwn (env : Env) (own : List Nat) : Bool := own.all fun i => match env.getD i none with
  | some (.sh _ _) => true
  | none => true
  | _ => false
def noex {α : Type} (r : Rs α) : Rs α := match r with
  | .ok a => .ok a
  | _ => .bad
@[simp] theorem noex_ok {α : Type} (a : α) : noex (.ok a) = .ok a := rfl
def fLcL (own : List Nat) (g : FG) (t : FT) (el : FV) : List Dv → Env → List Dv → Rs (Env × List Dv)
  | [], e, acc => .ok (e, acc)
  | x :: xs, e, acc => (noex (g x e)).bind fun e1 => (noex (t e1)).bind fun b => if b = true then (noex (el e1)).bind fun p => grd (decide (acc.length < 1000000)) (fLcL own g t el xs (wipeE p.1 own) (acc ++ [p.2])) else fLcL own g t el xs (wipeE e1 own) acc
def fLc (own : List Nat) (it : FA) (g : FG) (t : FT) (el : FV) : FE := fun env => (it env).bind fun p => grd (okOwn p.1 own) ((fLcL own g t el p.2 (wipeE p.1 own) []).bind fun q => .ok (backE p.1 q.1 own, .nw (flags q.2) (datas q.2)))
theorem noex_post {α β : Type} {r : Rs α} {k : α → Rs β} {P : β → Prop} {E E' : Env → Exn → Prop} (h : ((noex r).bind k).post P E) : r.post (fun a => (k a).post P E) E' := by
  cases r with
  | bad => exact h
  | ok a => exact h
  | ex e x => exact False.elim h
section
variable {K : PySem.W.Frag} {H0 F0 F H : Hp} {env : Env} {σ : St} {D : Addr} {o o' : HO}
theorem upd_none {H : Hp} {a D : Addr} {o : HO} : upd H D o a = none ↔ a ≠ D ∧ H a = none := by
  unfold upd
  by_cases h : a = D
  · simp [h]
  · simp [h]
theorem SlIs.rebase {B B' : Hp} {fp : Addr → Prop} {H' : Hp} {v : V} {s : Sl} (h : SlIs K B F H fp v s) (hb : ∀ a, F a ≠ none → B a = none → B' a = none) (hd : ∀ a, a ≠ D → H' a = H a) (hf : F D = none) (hfp : ¬ fp D) : SlIs K B' F H' fp v s := by
  cases s with
  | sh n d => exact Is.le (show Le B F n B' F n from ⟨Same.refl F, id, fun _ => hb⟩) h
  | ow n ds =>
    obtain ⟨p, xs, rfl, h1, h2, h3⟩ := h
    have : p ≠ D := fun z => by subst z; exact hfp h2
    exact ⟨p, xs, rfl, by rw [hd p this]; exact h1, h2, h3.le ⟨Same.refl F, id, fun _ => hb⟩⟩
  | rg d =>
    obtain ⟨G, h1, h2, h3, h4⟩ := h
    refine ⟨G, h1, fun a u e => ?_, h3, h4⟩
    have : a ≠ D := fun z => by
      subst z
      rcases h3 a (by rw [e]; exact fun z => nomatch z) with z | z
      · exact z hf
      · exact hfp z
    rw [hd a this]; exact h2 a u e
  | rl ds =>
    obtain ⟨p, xs, G, rfl, k1, k2, k3, h1, h2, h3, h4⟩ := h
    have hp : p ≠ D := fun z => by subst z; exact hfp k2
    refine ⟨p, xs, G, rfl, by rw [hd p hp]; exact k1, k2, k3, h1, fun a u e => ?_, h3, h4⟩
    have : a ≠ D := fun z => by
      subst z
      rcases h3 a (by rw [e]; exact fun z => nomatch z) with z | z
      · exact z hf
      · exact hfp z
    rw [hd a this]; exact h2 a u e
  | od q =>
    obtain ⟨p, xs, rfl, h1, h2, h3⟩ := h
    have : p ≠ D := fun z => by subst z; exact hfp h2
    exact ⟨p, xs, rfl, by rw [hd p this]; exact h1, h2, h3.old⟩
theorem upd_off {H : Hp} {D : Addr} {o : HO} : ∀ a, a ≠ D → upd H D o a = H a := fun _ h => upd_ne h
/-- the new list of a comprehension, as if it had stood at the entry -/
theorem Rel.baseNew (r : Rel K H0 F0 env σ F H) (hD : H D = none) : Rel K (upd H0 D o) F0 env σ F (upd H D o) := by
  obtain ⟨fp, r⟩ := r
  have fD : F D = none := same_none r.fz hD
  have nfp : ∀ i, ¬ fp i D := fun i z => (r.out i D z).2.2 hD
  refine ⟨fp, ⟨r.fz.trans (same_new hD), fun a u e => ?_, r.len, fun i s q => ?_, r.dis, fun i a h => ?_, fun a z => ?_, r.f0⟩⟩
  · by_cases y : a = D
    · subst y; rw [upd_same] at e ⊢; exact e
    · rw [upd_ne y] at e ⊢; exact r.base a u e
  · obtain ⟨v, h1, h2⟩ := r.sl i s q
    exact ⟨v, h1, h2.rebase (D := D) (fun a fa ha => by rw [upd_ne (fun z => fa (by rw [z]; exact fD))]; exact ha) upd_off fD (nfp i)⟩
  · obtain ⟨h1, h2, h3⟩ := r.out i a h
    have : a ≠ D := fun z => nfp i (z ▸ h)
    exact ⟨h1, by rw [upd_ne this]; exact h2, by rw [upd_ne this]; exact h3⟩
  · have : a ≠ D := fun y => z (by rw [y]; exact fD)
    rw [upd_ne this]; exact r.new a z
theorem base_f (r : Rel K (upd H0 D o) F0 env σ F H) (h0 : F0 D = none) : F D = none := by
  obtain ⟨fp, r⟩ := r
  cases q : F D with
  | none => rfl
  | some u =>
    rcases r.new D (by rw [q]; exact fun z => nomatch z) with z | z
    · exact absurd h0 z
    · rw [upd_same] at z; cases z
theorem Rel.baseSet (r : Rel K (upd H0 D o) F0 env σ F H) (h0 : F0 D = none) : Rel K (upd H0 D o') F0 env σ F (upd H D o') := by
  have fD := base_f r h0
  obtain ⟨fp, r⟩ := r
  have nfp : ∀ i, ¬ fp i D := fun i z => by have := (r.out i D z).2.1; rw [upd_same] at this; cases this
  refine ⟨fp, ⟨fun a u e => ?_, fun a u e => ?_, r.len, fun i s q => ?_, r.dis, fun i a h => ?_, fun a z => ?_, r.f0⟩⟩
  · rw [upd_ne (fun y => by rw [y, fD] at e; cases e)]; exact r.fz a u e
  · by_cases y : a = D
    · subst y; rw [upd_same] at e ⊢; exact e
    · rw [upd_ne y] at e ⊢; exact r.base a u (by rw [upd_ne y]; exact e)
  · obtain ⟨v, h1, h2⟩ := r.sl i s q
    refine ⟨v, h1, h2.rebase (D := D) (fun a fa ha => ?_) upd_off fD (nfp i)⟩
    rw [upd_none] at ha ⊢; exact ha
  · obtain ⟨h1, h2, h3⟩ := r.out i a h
    rw [upd_none] at h2
    exact ⟨h1, upd_none.mpr h2, by rw [upd_ne h2.1]; exact h3⟩
  · rcases r.new a z with y | y
    · exact .inl y
    · exact .inr (upd_none.mpr (upd_none.mp y))
theorem Rel.baseOff {n : Bool} {xs : List V} {ds : List PyData} (r : Rel K (upd H0 D o) F0 env σ F H) (h0 : F0 D = none) (hB : H0 D = none) (hD : H D = some (.lst xs)) (hi : IsA K H0 n F xs ds) : Rel K H0 F0 (env ++ [some (.ow n ds)]) (σ ++ [some (.ref D)]) F H := by
  have fD := base_f r h0
  obtain ⟨fp, r⟩ := r
  have nfp : ∀ i, ¬ fp i D := fun i z => by have := (r.out i D z).2.1; rw [upd_same] at this; cases this
  have r1 : RelF K H0 F0 env σ F H fp := ⟨r.fz, (same_new hB).trans r.base, r.len, fun i s q => by
    obtain ⟨v, h1, h2⟩ := r.sl i s q
    exact ⟨v, h1, h2.rebase (D := D) (fun a fa ha => (upd_none.mp ha).2) (fun _ _ => rfl) fD (nfp i)⟩, r.dis, fun i a h => ⟨(r.out i a h).1, (upd_none.mp (r.out i a h).2.1).2, (r.out i a h).2.2⟩, fun a z => (r.new a z).imp_right fun y => (upd_none.mp y).2, r.f0⟩
  refine ⟨_, r1.push (g := fun a => a = D) ⟨D, xs, rfl, hD, rfl, hi⟩ (fun i a _ ha z => ?_) fun a z => ?_⟩
  · have z : a = D := z
    subst z; exact nfp i ha
  · have z : a = D := z
    subst z; exact ⟨fD, hB, by rw [hD]; exact fun z => nomatch z⟩
end
theorem wipe_out {σ : St} {i : Nat} : ∀ {vs : List Nat}, i ∉ vs → (wipe σ vs)[i]? = σ[i]?
  | [], _ => rfl
  | v :: vs, h => by
    unfold wipe
    rw [List.getElem?_set_ne (fun z => h (by simp [z]))]
    exact wipe_out fun z => h (List.mem_cons_of_mem _ z)
theorem wipe_in {σ : St} {i : Nat} : ∀ {vs : List Nat}, i ∈ vs → (wipe σ vs)[i]? = if i < σ.length then some none else none
  | v :: vs, h => by
    unfold wipe
    by_cases z : v = i
    · subst z
      by_cases y : v < σ.length
      · rw [if_pos y, List.getElem?_set_self (by rw [wipe_length]; exact y)]
      · rw [if_neg y, List.getElem?_eq_none (by rw [List.length_set, wipe_length]; omega)]
    · rw [List.getElem?_set_ne z]
      exact wipe_in ((List.mem_cons.mp h).resolve_left fun y => z y.symm)
theorem wipe_but {σ σ2 : St} {is vs : List Nat} (h : But is (wipe σ vs) σ2) (hs : ∀ i ∈ is, i ∈ vs) : wipe σ2 vs = wipe σ vs := by
  have hl : σ2.length = σ.length := by rw [h.1, wipe_length]
  apply List.ext_getElem?
  intro i
  by_cases hi : i ∈ vs
  · rw [wipe_in hi, wipe_in hi, hl]
  · rw [wipe_out hi, h.2 i fun z => hi (hs i z)]
theorem wipeE_length (env : Env) : ∀ vs : List Nat, (wipeE env vs).length = env.length
  | [] => rfl
  | v :: vs => by unfold wipeE; rw [List.length_set, wipeE_length env vs]
theorem wipeE_get {env : Env} {i : Nat} {s : Sl} : ∀ {vs : List Nat}, (wipeE env vs)[i]? = some (some s) → i ∉ vs ∧ env[i]? = some (some s)
  | [], h => ⟨by simp, h⟩
  | v :: vs, h => by
    unfold wipeE at h
    rcases set_get h with ⟨_, z⟩ | ⟨h1, h2⟩
    · cases z
    · obtain ⟨h3, h4⟩ := wipeE_get h2
      exact ⟨by simp only [List.mem_cons, not_or]; exact ⟨h1, h3⟩, h4⟩
theorem backE_length (env1 env : Env) : ∀ vs : List Nat, (backE env1 env vs).length = env.length
  | [] => rfl
  | v :: vs => by unfold backE; rw [List.length_set, backE_length env1 env vs]
theorem backE_get {env1 env : Env} {i : Nat} {s : Sl} : ∀ {vs : List Nat}, (backE env1 env vs)[i]? = some (some s) → (i ∈ vs ∧ env1.getD i none = some s) ∨ (i ∉ vs ∧ env[i]? = some (some s))
  | [], h => .inr ⟨by simp, h⟩
  | v :: vs, h => by
    unfold backE at h
    rcases set_get h with ⟨z1, z2⟩ | ⟨h1, h2⟩
    · exact .inl ⟨by simp [z1], by rw [z1]; exact z2⟩
    · rcases backE_get h2 with ⟨h3, h4⟩ | ⟨h3, h4⟩
      · exact .inl ⟨List.mem_cons_of_mem _ h3, h4⟩
      · exact .inr ⟨by simp only [List.mem_cons, not_or]; exact ⟨h1, h3⟩, h4⟩
theorem rel_wipe {K : PySem.W.Frag} {H0 F0 F H : Hp} {env : Env} {σ σ0 : St} {vs : List Nat} (r : Rel K H0 F0 env σ F H) (h : wipe σ vs = wipe σ0 vs) : Rel K H0 F0 (wipeE env vs) (wipe σ0 vs) F H := by
  rw [← h]
  refine r.sub (by rw [wipe_length, wipeE_length, r.len]) fun i s q => ?_
  obtain ⟨h1, h2⟩ := wipeE_get q
  exact .inl ⟨h2, wipe_out h1⟩
theorem rel_back {K : PySem.W.Frag} {H0 F0 F1 H1 F H : Hp} {env1 env : Env} {σ : St} {x : Option Sl} {y : Option V} {vs : List Nat} (r1 : Rel K H0 F0 env1 σ F1 H1) (ok : okOwn env1 vs = true) (e : Same F1 F) (r : Rel K H0 F0 (env ++ [x]) (wipe σ vs ++ [y]) F H) :
    Rel K H0 F0 (backE env1 env vs ++ [x]) (σ ++ [y]) F H := by
  have hl : σ.length = env.length := by have := r.len; rw [List.length_append, List.length_append, wipe_length] at this; simpa using this
  refine r.sub (by simp [backE_length, hl]) fun i s q => ?_
  by_cases hi : i < env.length
  · rw [List.getElem?_append_left (by rw [backE_length]; exact hi)] at q
    rcases backE_get q with ⟨h1, h2⟩ | ⟨h1, h2⟩
    · have hs := List.all_eq_true.mp ok i h1
      rw [h2] at hs
      cases s with
      | sh n d =>
        have hg : env1[i]? = some (some (.sh n d)) := by
          rw [List.getD_eq_getElem?_getD] at h2
          cases z : env1[i]? with
          | none => rw [z] at h2; cases h2
          | some w => rw [z] at h2; exact congrArg some h2
        obtain ⟨fp, rf⟩ := r1
        obtain ⟨v, g1, g2⟩ := rf.sl i _ hg
        exact .inr ⟨v, n, d, rfl, app_left g1, Is.to g2 e⟩
      | ow n d => cases hs
      | rg d => cases hs
      | rl d => cases hs
      | od d => cases hs
    · refine .inl ⟨app_left h2, ?_⟩
      rw [List.getElem?_append_left (by omega), List.getElem?_append_left (by rw [wipe_length]; omega), wipe_out h1]
  · rw [List.getElem?_append_right (by rw [backE_length]; omega), backE_length] at q
    refine .inl ⟨by rw [List.getElem?_append_right (by omega)]; exact q, ?_⟩
    rw [List.getElem?_append_right (by omega), List.getElem?_append_right (by rw [wipe_length]; omega), wipe_length]
abbrev W0 : WX := fun _ _ _ _ => False
theorem flags_app {ps : List Dv} {p : Dv} : flags (ps ++ [p]) = (flags ps && p.1) := by simp [flags]
theorem datas_app {ps : List Dv} {p : Dv} : datas (ps ++ [p]) = datas ps ++ [p.2] := by simp [datas]
theorem lc_le {K : PySem.W.Frag} {mg : Str → Option Value} {W : WX} {own is : List Nat} {fi : FA} {g : FG} {t : FT} {el : FV} {σ : St} {H : Hp} {Q : VK} (his : ∀ i ∈ is, i ∈ own) (h : tE K mg W (fLc own fi g t el) σ H Q) :
    tLc (tI K mg W fi) (tG K is g) (tT K mg W0 t) (tD K mg W0 el) own σ H Q := by
  obtain ⟨H0, F0, F, env, r, h⟩ := h
  refine ⟨H0, F0, F, env, r, ?_⟩
  unfold fLc at h
  refine Rs.post_mono (Rs.post_bind.mp h) (fun p hp J F1 H1 r1 good e1 e2 => ?_) fun _ _ x => x
  obtain ⟨env1, ps⟩ := p
  dsimp only at hp r1 good
  obtain ⟨ok, hp⟩ := grd_post hp
  have hp := Rs.post_bind.mp hp
  intro D hD
  have fD1 : F1 D = none := same_none r1.fz hD
  have f0 : F0 D = none := by obtain ⟨fp, rf⟩ := r1; exact same_none rf.f0 fD1
  have b0 : H0 D = none := same_none r1.base hD
  refine ⟨fun i m H' => ∃ F2 e acc xs, Rel K (upd H0 D (.lst xs)) F0 e (wipe σ own) F2 H' ∧ Same F1 F2 ∧ Same H1 H' ∧ H' D = some (.lst xs) ∧ IsA K H0 (flags acc) F2 xs (datas acc) ∧ m = ps.length - i ∧
      (fLcL own g t el (ps.drop i) e acc).post (fun q => ∀ v F' H', RelR K H0 F0 (backE env1 q.1 own) σ F' H' v (.nw (flags q.2) (datas q.2)) → Same H H' → Same F F' → Q v H') (ExP K mg W H0 F0 F H σ),
    ⟨ps.length, F1, wipeE env1 own, [], [], rel_wipe (r1.baseNew hD) rfl, Same.refl F1, same_new hD, upd_same, .nil, by omega, by rw [List.drop_zero]; exact hp⟩, fun i m H' hw => ?_⟩
  obtain ⟨F2, e, acc, xs, r2, s2, k2, hx, ia, em, q2⟩ := hw
  have fD2 := base_f r2 f0
  obtain ⟨g1, g2⟩ := good i F2 H' s2 r2.fz
  by_cases hi : i < ps.length
  · rw [List.drop_eq_getElem_cons hi] at q2
    obtain ⟨go, yld⟩ := g1 ps[i] (List.getElem?_eq_getElem hi)
    refine .inr ⟨go, fun H3 => ∃ F3 e3 acc3 xs3, Rel K (upd H0 D (.lst xs3)) F0 e3 (wipe σ own) F3 H3 ∧ Same F1 F3 ∧ Same H1 H3 ∧ H3 D = some (.lst xs3) ∧ IsA K H0 (flags acc3) F3 xs3 (datas acc3) ∧
      (fLcL own g t el (ps.drop (i + 1)) e3 acc3).post (fun q => ∀ v F' H', RelR K H0 F0 (backE env1 q.1 own) σ F' H' v (.nw (flags q.2) (datas q.2)) → Same H H' → Same F F' → Q v H') (ExP K mg W H0 F0 F H σ), fun H3 hn => ?_, fun x H3 hy => ?_⟩
    · obtain ⟨F3, e3, acc3, xs3, z1, z2, z3, z4, z5, z6⟩ := hn
      exact ⟨ps.length - (i + 1), by omega, F3, e3, acc3, xs3, z1, z2, z3, z4, z5, rfl, z6⟩
    · obtain ⟨F3, ex, ix⟩ := yld x H3 hy
      have fD3 : F3 D = none := by
        cases z : F3 D with
        | none => rfl
        | some o =>
          rcases ex.new D (by rw [z]; exact fun z => nomatch z) with y | y
          · exact absurd fD2 y
          · rw [hx] at y; cases y
      refine ⟨upd H0 D (.lst xs), F0, F3, e, ps[i], r2.ext ex, Is.le (show Le H0 F3 ps[i].1 (upd H0 D (.lst xs)) F3 ps[i].1 from ⟨Same.refl F3, id, fun _ a fa ha => by rw [upd_ne (fun z => fa (by rw [z]; exact fD3))]; exact ha⟩) ix, ?_⟩
      unfold fLcL at q2
      refine Rs.post_mono (noex_post (E' := fun _ _ => False) q2) (fun e4 h4 σ4 r4 b4 => ⟨wipe_but b4 his, ?_⟩) fun _ _ z => z
      refine ⟨upd H0 D (.lst xs), F0, F3, e4, r4, ?_⟩
      refine Rs.post_mono (noex_post (E' := fun _ _ => False) h4) (fun b h5 H5 r5 e5 => ?_) fun _ _ z => z.elim
      cases b with
      | true =>
        rw [if_pos rfl] at h5 ⊢
        refine ⟨upd H0 D (.lst xs), F0, F3, e4, r5, ?_⟩
        refine Rs.post_mono (noex_post (E' := fun _ _ => False) h5) (fun p6 h6 y F6 H6 r6 i6 e6 s6 => ?_) fun _ _ z => z.elim
        obtain ⟨hz, h6⟩ := grd_post h6
        have hz := of_decide_eq_true hz
        have hxs : xs.length < 1000000 := by rw [ia.length]; simpa [datas] using hz
        have hD6 : H6 D = some (.lst xs) := e6 D _ (e5 D _ (ex.h D _ hx))
        refine ⟨xs, hD6, million hxs, F6, wipeE p6.1 own, acc ++ [p6.2], xs ++ [y], rel_wipe (r6.baseSet f0) (wipe_but b4 his), (s2.trans ex.f).trans s6, fun a u hu => ?_, upd_same, ?_, h6⟩
        · have hne : a ≠ D := fun z => by rw [z, hD] at hu; cases hu
          rw [upd_ne hne]
          exact e6 a u (e5 a u (ex.h a u (k2 a u hu)))
        · rw [flags_app, datas_app]
          have e36 : Same F2 F6 := ex.f.trans s6
          refine IsA.append ((ia.to e36).le1) (.cons ?_ .nil)
          exact Is.le2 (Is.le (show Le (upd H0 D (.lst xs)) F6 p6.2.1 H0 F6 p6.2.1 from ⟨Same.refl F6, id, fun _ a _ ha => (upd_none.mp ha).2⟩) i6)
      | false =>
        rw [if_neg (by decide)] at h5 ⊢
        exact ⟨F3, wipeE e4 own, acc, xs, rel_wipe r5 (wipe_but b4 his), s2.trans ex.f, fun a u hu => e5 a u (ex.h a u (k2 a u hu)), e5 D _ (ex.h D _ hx), ia.to ex.f, h5⟩
  · refine .inl ⟨g2 (by omega), ?_⟩
    rw [List.drop_eq_nil_of_le (by omega)] at q2
    exact q2 (.ref D) F2 H' (rel_back r1 ok s2 (r2.baseOff f0 b0 hx ia)) (e1.trans k2) (e2.trans s2)
section
variable {X : Cx} {W : WX} {elt tg iter : Expr} {ifs : List Expr} {scope : Scope} {own : List (Str × Nat)} {pos : Pos} {is : List Nat} {fi : FA} {g : FG} {t : FT} {fe : FE}
theorem d_lc (hc : X.calm = true) (hN : X.N.Nodup) (hi : DI X W tg iter fi) (ok : BlkOk X.N X.env.scope scope own) (his : ∀ i ∈ is, i ∈ own.map (·.2))
    (hg : ∀ (s : Shared) (H : Hp) (C : Addr) (cl : List (Str × Addr)) (fp : List Addr), DG (X.blk s H scope (compEnvC scope cl C X.env) fp) tg is g)
    (ht : ∀ (s : Shared) (H : Hp) (C : Addr) (cl : List (Str × Addr)) (fp : List Addr), PTs (X.blk s H scope (compEnvC scope cl C X.env) fp) ifs (tT X.K X.mg W0 t))
    (he : ∀ (s : Shared) (H : Hp) (C : Addr) (cl : List (Str × Addr)) (fp : List Addr), DE (X.blk s H scope (compEnvC scope cl C X.env) fp) W0 elt fe) (hs : ∀ x, foldedSetIterable iter X.env x = pure x := by intro _; rfl) :
    DE X W (.ListComp elt [⟨tg, iter, ifs, 0⟩] scope pos) (fLc (own.map (·.2)) fi g t (st fe)) :=
  pe_le (pe_lc hc hN hi ok hg ht (fun s H C cl fp => (he s H C cl fp).d) hs) fun σ H Q q => lc_le his q
def fYes : FT := fun _ => .ok true
theorem ts_nil : PTs X [] (tT X.K X.mg W0 fYes) := ⟨fun pins s σ H Q I h => pts_nil.run pins s σ H Q I (by
  obtain ⟨H0, F0, F, env, r, q⟩ := h
  exact q H r (Same.refl H))⟩
theorem ts_one {c : Expr} (h : DT X W0 c t) : PTs X [c] (tT X.K X.mg W0 t) := pts_one h
end
end Dn
namespace Dn
open PySem PySem.Spec L2
section
variable {K : PySem.W.Frag} {H0 F H : Hp} {v : V} {n : Bool}
theorem vw_str {x : Str} (h : Vw K H0 F H v (n, .str x)) : v = .str x := by
  rcases h with h | ⟨_, _, _, _, h, _⟩
  · cases h; rfl
  · cases h
theorem vw_bool {x : Bool} (h : Vw K H0 F H v (n, .bool x)) : v = .bl x := by
  rcases h with h | ⟨_, _, _, _, h, _⟩
  · cases h; rfl
  · cases h
theorem vw_none (h : Vw K H0 F H v (n, .none)) : v = .non := by
  rcases h with h | ⟨_, _, _, _, h, _⟩
  · cases h; rfl
  · cases h
theorem vw_list {ds : List PyData} (fz : Same F H) (h : Vw K H0 F H v (n, .list ds)) : ∃ a xs, v = .ref a ∧ SqL K H a xs ∧ IsA K H0 n F xs ds := by
  rcases h with h | ⟨a, xs, es, rfl, e, h1, _, h2⟩
  · cases h with | lst hs _ ha => exact ⟨_, _, rfl, Same.seq fz hs, ha⟩
  · cases e; exact ⟨a, xs, rfl, .inl (.inl h1), h2⟩
theorem vw_tup {ds : List PyData} (fz : Same F H) (h : Vw K H0 F H v (n, .tuple ds)) : ∃ a xs, v = .ref a ∧ F a = some (.tup xs) ∧ SqT K H a xs ∧ IsA K H0 n F xs ds := by
  rcases h with h | ⟨_, _, _, _, h, _⟩
  · cases h with | tup hs ha => exact ⟨_, _, rfl, hs, .inl (.inl (fz _ _ hs)), ha⟩
  · cases h
mutual
theorem Is.dp : ∀ {d : PyData} {v : V}, Is K H0 n F v d → PyData.canLay0 d = true → Dp K F v d
  | _, _, .non, _ => .non
  | _, _, .bl b, _ => .bl b
  | _, _, .int i, _ => .int i
  | _, _, .str x, _ => .str x
  | _, _, .lst h _ a, hd => .lst h (IsA.dp a (by simpa [PyData.canLay0] using hd))
  | _, _, .tup h a, hd => .tup (.inl (.inl h)) (IsA.dp a (by simpa [PyData.canLay0] using hd))
  | _, _, .dk _ _ _, hd => by simp [PyData.canLay0] at hd
  | _, _, .dt _ _ _, hd => by simp [PyData.canLay0] at hd
  | _, _, .dl _ _ _, hd => by simp [PyData.canLay0] at hd
  | _, _, .exc _ _ _ _, hd => by simp [encX, PyData.canLay0] at hd
theorem IsA.dp : ∀ {ds : List PyData} {vs : List V}, IsA K H0 n F vs ds → PyData.canLayAll0 ds = true → DpAll K F vs ds
  | _, _, .nil, _ => .nil
  | _, _, .cons h t, hd => by
    rw [PyData.canLayAll0, Bool.and_eq_true] at hd
    exact .cons (Is.dp h hd.1) (IsA.dp t hd.2)
end
mutual
theorem dp_to {F H : Hp} (e : Same F H) : ∀ {d : PyData} {v : V}, Dp K F v d → Dp K H v d
  | _, _, .non => .non
  | _, _, .bl b => .bl b
  | _, _, .int i => .int i
  | _, _, .str x => .str x
  | _, _, .lst h a => .lst (Same.seq e h) (dpA_to e a)
  | _, _, .tup h a => .tup (same_t e h) (dpA_to e a)
theorem dpA_to {F H : Hp} (e : Same F H) : ∀ {d : List PyData} {v : List V}, DpAll K F v d → DpAll K H v d
  | _, _, .nil => .nil
  | _, _, .cons h t => .cons (dp_to e h) (dpA_to e t)
end
theorem vw_dp {p : Dv} (fz : Same F H) (h : Vw K H0 F H v p) (hd : PyData.canLay0 p.2 = true) : Dp K H v p.2 := by
  rcases h with h | ⟨a, xs, es, rfl, e, h1, _, h2⟩
  · exact dp_to fz (Is.dp h hd)
  · rw [e] at hd ⊢
    exact .lst (.inl (.inl h1)) (dpA_to fz (h2.dp (by simpa [PyData.canLay0] using hd)))
end
theorem opr_mk {X : Cx} {f : Value → Value → Sem Value} {g : G2} (h : ∀ (pins : List (Addr × Obj)) (s : Shared) (σ : St) (H : Hp) (x y : V) (v u : Value) (Q : VK) (H0 F : Hp) (m n : Bool) (d e : PyData), L2.Inv X pins σ H s → RelV x v → RelV y u → Same F H → Same H0 H →
    Vw X.K H0 F H x (m, d) → Vw X.K H0 F H y (n, e) → (g (m, d) (n, e)).post (fun res => ∀ v F' H', Ext F H F' H' → VRes X.K H0 H F' H' v res → Q v H') (fun _ _ => False) → wpAny (model X.prog X.w) X.A (f v u) (EP X pins σ Q) X.xe s) : OpR X f (rG2 X.K g) :=
  fun pins s σ H x y v u Q I rx ry ⟨H0, F, p, q, fz, bs, vx, vy, hp⟩ => h pins s σ H x y v u Q H0 F p.1 q.1 p.2 q.2 I rx ry fz bs vx vy hp
section
variable {X : Cx} {s : Shared} {σ : St} {H : Hp} {pins : List (Addr × Obj)}
def sc (d : PyData) : Rs R := .ok (.sh true d)
theorem sc_ok {K : PySem.W.Frag} {H0 F H : Hp} {Q : VK} {v : V} {d : PyData} (h : (sc d).post (fun res => ∀ v F' H', Ext F H F' H' → VRes K H0 H F' H' v res → Q v H') (fun _ _ => False)) (fz : Same F H) (hd : Is K H0 true F v d) : Q v H := h v F H (Ext.refl fz) hd
theorem cat_lists {prog : Program} {w : World} {A : Around} {E : Value → Shared → Prop} {l b : Addr} {vs ws : List Value} {Q : Value → Shared → Prop} (hl : PlainL s.heap l vs.toArray) (hb : PlainL s.heap b ws.toArray) (hz : vs.length + ws.length ≤ sizeLine)
    (h : Q (.ref s.heap.objs.size) { s with heap := s.heap.push { cls := .type "list", data := .seq (vs ++ ws).toArray } }) : wpAny (model prog w) A (binaryOp .Add (.ref l) (.ref b)) Q E s := by
  obtain ⟨⟨c1, d1, x1, s1⟩, n1, ho, hc, hdd, hd⟩ := hl
  obtain ⟨⟨c2, d2, x2, s2⟩, n2, ho2, hc2, hdd2, hd2⟩ := hb
  dsimp only at hc hd hc2 hd2
  subst hc hd hc2 hd2
  have e : vs.toArray ++ ws.toArray = (vs ++ ws).toArray := by simp
  refine concat_meets ⟨_, ho, rfl⟩ ⟨_, ho2, rfl⟩ noFill_list_add seq_list_add PySem.F.slot_list_add PySem.F.entry_list_add (PySem.F.args_list_add_2 _ _) (PyProof.Rows.list_addW l b vs.toArray ws.toArray n1 n2 d1 d2 s1 s2 (by simpa using hz)) ⟨ho, ho2, ?_⟩
  rw [e]; exact h
def gAdd : G2 := fun p q => match p.2, q.2 with
  | .int a, .int b => sc (.int (a + b))
  | .str a, .str b => grd (decide (a.length + b.length ≤ 1000000)) (sc (.str (a ++ b)))
  | .list a, .list b => grd (decide (a.length + b.length ≤ 1000000)) (.ok (.nw (p.1 && q.1) (a ++ b)))
  | .tuple a, .tuple b => grd (decide (a.length + b.length ≤ 1000000)) (.ok (.sh (p.1 && q.1) (.tuple (a ++ b))))
  | _, _ => .bad
theorem million' {n : Nat} (h : n ≤ 1000000) : n ≤ sizeLine := Nat.le_trans h (by decide)
theorem op_gAdd : OpR X (binaryOp .Add) (rG2 X.K gAdd) := opr_mk fun pins s σ H x y v u Q H0 F m n d e I rx ry fz bs vx vy hp => by
  unfold gAdd at hp
  dsimp only at hp
  split at hp
  · rename_i a b
    exact op_add pins s σ H x y v u Q I rx ry ⟨a, b, vw_int vx, vw_int vy, sc_ok hp fz (.int _)⟩
  · rename_i a b
    obtain ⟨hz, hp⟩ := grd_post hp
    exact op_add_str pins s σ H x y v u Q I rx ry ⟨a, b, vw_str vx, vw_str vy, million' (of_decide_eq_true hz), sc_ok hp fz (.str _)⟩
  · rename_i a b
    obtain ⟨hz, hp⟩ := grd_post hp
    have hz := of_decide_eq_true hz
    obtain ⟨p, xs, rfl, hs, ha⟩ := vw_list fz vx
    obtain ⟨q, ys, rfl, ht, hb⟩ := vw_list fz vy
    cases rx
    cases ry
    obtain ⟨its, r1, p1, _⟩ := I.list hs
    obtain ⟨its2, r2, p2, _⟩ := I.list ht
    have hlen : xs.length + ys.length ≤ sizeLine := by rw [ha.length, hb.length]; exact million' hz
    refine cat_lists p1 p2 (by rw [← r1.length, ← r2.length]; exact hlen) ?_
    have hf : H s.heap.objs.size = none := I.fresh
    exact ⟨.ref _, _, I.lnew (t' := s.toks) (r1.append r2) (by rw [List.length_append]; exact hlen), rfl, hp _ F _ (Ext.allocH fz hf) ⟨_, _, rfl, hf, same_none fz hf, upd_same, (ha.le1).append (hb.le (le_and' (Same.refl F)))⟩⟩
  · rename_i a b
    obtain ⟨hz, hp⟩ := grd_post hp
    have hz := of_decide_eq_true hz
    obtain ⟨p, xs, rfl, hs0, hs, ha⟩ := vw_tup fz vx
    obtain ⟨q, ys, rfl, ht0, ht, hb⟩ := vw_tup fz vy
    have hA : IsA X.K H0 (m && n) F xs a := ha.le1
    have hB : IsA X.K H0 (m && n) F ys b := hb.le (le_and' (Same.refl F))
    refine op_catA pins s σ H _ _ v u Q I rx ry ⟨p, q, xs, ys, rfl, rfl, hs, ht, by rw [ha.length, hb.length]; exact million' hz, fun e0 => ?_, fun _ e0 => ?_, fun _ _ r hr => ?_⟩
    · subst e0
      have : a = [] := by cases ha; rfl
      subst this
      exact hp _ F H (Ext.refl fz) (.tup ht0 hB)
    · subst e0
      have : b = [] := by cases hb; rfl
      subst this
      rw [List.append_nil] at hp
      exact hp _ F H (Ext.refl fz) (.tup hs0 hA)
    · exact hp _ (upd F r (.tup (xs ++ ys))) _ (Ext.alloc fz hr) (.tup upd_same ((hA.append hB).to (same_new (same_none fz hr))))
  · exact hp.elim
theorem gAdd_no : ∀ p q e x, gAdd p q ≠ .ex e x := fun p q e x h => by
  unfold gAdd at h
  split at h
  · cases h
  · unfold grd at h; split at h <;> cases h
  · unfold grd at h; split at h <;> cases h
  · unfold grd at h; split at h <;> cases h
  · cases h
/-- two ints -/
def gI (c : Int → Int → Bool) (f : Int → Int → PyData) : G2 := fun p q => match p.2, q.2 with
  | .int a, .int b => grd (c a b) (sc (f a b))
  | _, _ => .bad
theorem gI_no {c : Int → Int → Bool} {f : Int → Int → PyData} : ∀ p q e x, gI c f p q ≠ .ex e x := fun p q e x h => by
  unfold gI at h
  split at h
  · unfold grd at h; split at h <;> cases h
  · cases h
theorem opI_of {fv : Value → Value → Sem Value} {C : Int → Int → Prop} {g : Int → Int → V} {c : Int → Int → Bool} {f : Int → Int → PyData} (h : OpR X fv (rI C g)) (hc : ∀ a b, c a b = true → C a b) (hf : ∀ (K : PySem.W.Frag) (H0 F : Hp) (a b : Int), Is K H0 true F (g a b) (f a b)) : OpR X fv (rG2 X.K (gI c f)) :=
  opr_mk fun pins s σ H x y v u Q H0 F m n d e I rx ry fz bs vx vy hp => by
    unfold gI at hp
    dsimp only at hp
    split at hp
    · rename_i a b
      obtain ⟨hz, hp⟩ := grd_post hp
      exact h pins s σ H x y v u Q I rx ry ⟨a, b, vw_int vx, vw_int vy, hc a b hz, sc_ok hp fz (hf _ _ _ _ _)⟩
    · exact hp.elim
theorem opI0_of {fv : Value → Value → Sem Value} {g : Int → Int → V} {f : Int → Int → PyData} (h : OpR X fv (rI0 g)) (hf : ∀ (K : PySem.W.Frag) (H0 F : Hp) (a b : Int), Is K H0 true F (g a b) (f a b)) : OpR X fv (rG2 X.K (gI (fun _ _ => true) f)) :=
  opI_of (C := fun _ _ => True) (opr_le h fun x y H Q ⟨i, j, h1, h2, _, q⟩ => ⟨i, j, h1, h2, q⟩) (fun _ _ _ => True.intro) hf
def tt2 : Int → Int → Bool := fun _ _ => true
abbrev gSub : G2 := gI (fun _ _ => true) fun a b => .int (a - b)
def cMul (a b : Int) : Bool := (decide (-(2 ^ 64) < a) && decide (a < 2 ^ 64)) || (decide (-(2 ^ 64) < b) && decide (b < 2 ^ 64))
def cPos (_ b : Int) : Bool := decide (0 < b)
def cDiv (_ b : Int) : Bool := decide (0 < b) && decide (b < 1073741824)
def cPow (a b : Int) : Bool := decide (0 ≤ b) && decide (b ≤ 1000) && decide (a.natAbs < 2 ^ 64)
abbrev gMod : G2 := gI cPos fun a b => .int (a % b)
abbrev gFdv : G2 := gI cDiv fun a b => .int (a / b)
abbrev gPow : G2 := gI cPow fun a b => .int (a ^ b.toNat)
abbrev gLt : G2 := gI (fun _ _ => true) fun a b => .bool (decide (a < b))
abbrev gLe : G2 := gI (fun _ _ => true) fun a b => .bool (decide (a ≤ b))
abbrev gGt : G2 := gI (fun _ _ => true) fun a b => .bool (decide (b < a))
abbrev gGe : G2 := gI (fun _ _ => true) fun a b => .bool (decide (b ≤ a))
theorem op_gSub : OpR X (binaryOp .Sub) (rG2 X.K gSub) := opI0_of op_sub fun _ _ _ _ _ => .int _
theorem op_gMod : OpR X (binaryOp .Mod) (rG2 X.K gMod) := opI_of op_mod (fun a b h => of_decide_eq_true h) fun _ _ _ _ _ => .int _
theorem op_gFdv : OpR X (binaryOp .FloorDiv) (rG2 X.K gFdv) := opI_of op_fdiv (fun a b h => by
  unfold cDiv at h
  rw [Bool.and_eq_true, decide_eq_true_iff, decide_eq_true_iff] at h
  exact h) fun _ _ _ _ _ => .int _
theorem op_gPow : OpR X (binaryOp .Pow) (rG2 X.K gPow) := opI_of op_pow (fun a b h => by
  unfold cPow at h
  rw [Bool.and_eq_true, Bool.and_eq_true, decide_eq_true_iff, decide_eq_true_iff, decide_eq_true_iff] at h
  exact ⟨h.1.1, by omega, h.2⟩) fun _ _ _ _ _ => .int _
theorem op_gLt : OpR X (compareOp .Lt) (rG2 X.K gLt) := opI0_of op_lt fun _ _ _ _ _ => .bl _
theorem op_gLe : OpR X (compareOp .LtE) (rG2 X.K gLe) := opI0_of op_le fun _ _ _ _ _ => .bl _
theorem op_gGt : OpR X (compareOp .Gt) (rG2 X.K gGt) := opI0_of op_gt fun _ _ _ _ _ => .bl _
theorem op_gGe : OpR X (compareOp .GtE) (rG2 X.K gGe) := opI0_of op_ge fun _ _ _ _ _ => .bl _
/-- a * b, a list times an int -/
def gMul : G2 := fun p q => match p.2, q.2 with
  | .int a, .int b => grd (cMul a b) (sc (.int (a * b)))
  | _, _ => .bad
theorem gMul_no : ∀ p q e x, gMul p q ≠ .ex e x := fun p q e x h => by
  unfold gMul at h
  split at h
  · unfold grd at h; split at h <;> cases h
  · cases h
theorem op_gMul : OpR X (binaryOp .Mult) (rG2 X.K gMul) := opr_le (opI_of (c := cMul) (f := fun a b => .int (a * b)) op_mul (fun a b h => by
  unfold cMul at h
  rw [Bool.or_eq_true, Bool.and_eq_true, Bool.and_eq_true, decide_eq_true_iff, decide_eq_true_iff, decide_eq_true_iff, decide_eq_true_iff] at h
  exact h) fun _ _ _ _ _ => .int _) fun x y H Q q => by
    have e : gMul = gI cMul fun a b => .int (a * b) := rfl
    rw [← e]; exact q
/-- == -/
def eqB : PyData → PyData → Option Bool
  | .int a, .int b => some (decide (a = b))
  | .str a, .str b => some (decide (a = b))
  | .bool a, .bool b => some (decide (a = b))
  | .none, .none => some true
  | .none, .int _ => some false
  | .int _, .none => some false
  | d, e => if SeqAt.shaped d && SeqAt.shaped e then some (PyData.eqv d e) else none
def gEqN (neg : Bool) : G2 := fun p q => match eqB p.2 q.2 with
  | some b => sc (.bool (if neg = true then !b else b))
  | none => .bad
theorem gEqN_no {neg : Bool} : ∀ p q e x, gEqN neg p q ≠ .ex e x := fun p q e x h => by
  unfold gEqN at h
  split at h <;> cases h
theorem scal_is {K : PySem.W.Frag} {H0 F : Hp} {b : Bool} : Is K H0 true F (.bl b) (.bool b) := .bl b
theorem op_gEq (hu : X.A.units + 64 < cLine) : OpR X (compareOp .Eq) (rG2 X.K (gEqN false)) := opr_mk fun pins s σ H x y v u Q H0 F m n d e I rx ry fz bs vx vy hp => by
  have fin : ∀ b, eqB d e = some b → (x = y ↔ b = true) → scal x y = true → wpAny (model X.prog X.w) X.A (compareOp .Eq v u) (EP X pins σ Q) X.xe s := fun b hb he hs => by
    unfold gEqN at hp
    dsimp only at hp
    rw [hb] at hp
    refine op_eq pins s σ H x y v u Q I rx ry ⟨hs, ?_⟩
    have : decide (x = y) = b := by
      cases b with
      | true => exact decide_eq_true (he.mpr rfl)
      | false => exact decide_eq_false fun z => Bool.false_ne_true (he.mp z)
    rw [this]
    exact sc_ok hp fz (.bl _)
  have deep : ∀ b, eqB d e = some b → SeqAt.shaped d = true → SeqAt.shaped e = true → PyData.eqv d e = b → wpAny (model X.prog X.w) X.A (compareOp .Eq v u) (EP X pins σ Q) X.xe s := fun b hb h1 h2 h3 => by
    unfold gEqN at hp
    dsimp only at hp
    rw [hb] at hp
    refine op_eqD hu pins s σ H x y v u Q I rx ry ⟨d, e, vw_dp fz vx (SeqAt.canLay_of_shaped h1), vw_dp fz vy (SeqAt.canLay_of_shaped h2), h1, h2, ?_⟩
    rw [h3]
    exact sc_ok hp fz (.bl _)
  cases hq : eqB d e with
  | none =>
    unfold gEqN at hp
    dsimp only at hp
    rw [hq] at hp
    exact hp.elim
  | some b =>
    unfold eqB at hq
    split at hq
    · cases hq
      have h1 := vw_int vx; have h2 := vw_int vy
      subst h1 h2
      exact fin _ rfl (by simp) rfl
    · cases hq
      have h1 := vw_str vx; have h2 := vw_str vy
      subst h1 h2
      exact fin _ rfl (by simp) rfl
    · cases hq
      have h1 := vw_bool vx; have h2 := vw_bool vy
      subst h1 h2
      exact fin _ rfl (by simp) rfl
    · cases hq
      have h1 := vw_none vx; have h2 := vw_none vy
      subst h1 h2
      exact fin _ rfl (by simp) rfl
    · cases hq
      have h1 := vw_none vx; have h2 := vw_int vy
      subst h1 h2
      exact fin _ rfl (by simp) rfl
    · cases hq
      have h1 := vw_int vx; have h2 := vw_none vy
      subst h1 h2
      exact fin _ rfl (by simp) rfl
    · rename_i n1 n2 n3 n4 n5 n6
      by_cases hz : (SeqAt.shaped d && SeqAt.shaped e) = true
      · rw [if_pos hz] at hq
        obtain ⟨z1, z2⟩ := Bool.and_eq_true_iff.mp hz
        refine deep b ?_ z1 z2 (Option.some.inj hq)
        unfold eqB
        split
        · exact absurd rfl (n1 _ _ rfl)
        · exact absurd rfl (n2 _ _ rfl)
        · exact absurd rfl (n3 _ _ rfl)
        · exact absurd rfl (n4 rfl)
        · exact absurd rfl (n5 _ rfl)
        · exact absurd rfl (n6 _ rfl)
        · rw [if_pos hz]; exact hq
      · rw [if_neg hz] at hq; cases hq
end
end Dn
namespace Dn
open PySem PySem.Spec L2
section
variable {X : Cx}
theorem op_gNe (hu : X.A.units + 64 < cLine) : OpR X (compareOp .NotEq) (rG2 X.K (gEqN true)) := opr_mk fun pins s σ H x y v u Q H0 F m n d e I rx ry fz bs vx vy hp => by
  have fin : ∀ b, eqB d e = some b → (x = y ↔ b = true) → scal x y = true → wpAny (model X.prog X.w) X.A (compareOp .NotEq v u) (EP X pins σ Q) X.xe s := fun b hb he hs => by
    unfold gEqN at hp
    dsimp only at hp
    rw [hb] at hp
    refine op_ne pins s σ H x y v u Q I rx ry ⟨hs, ?_⟩
    have : decide (x = y) = b := by
      cases b with
      | true => exact decide_eq_true (he.mpr rfl)
      | false => exact decide_eq_false fun z => Bool.false_ne_true (he.mp z)
    rw [this]
    exact sc_ok hp fz (.bl _)
  have deep : ∀ b, eqB d e = some b → SeqAt.shaped d = true → SeqAt.shaped e = true → PyData.eqv d e = b → wpAny (model X.prog X.w) X.A (compareOp .NotEq v u) (EP X pins σ Q) X.xe s := fun b hb h1 h2 h3 => by
    unfold gEqN at hp
    dsimp only at hp
    rw [hb] at hp
    refine op_neD hu pins s σ H x y v u Q I rx ry ⟨d, e, vw_dp fz vx (SeqAt.canLay_of_shaped h1), vw_dp fz vy (SeqAt.canLay_of_shaped h2), h1, h2, ?_⟩
    rw [h3]
    exact sc_ok hp fz (.bl _)
  cases hq : eqB d e with
  | none =>
    unfold gEqN at hp
    dsimp only at hp
    rw [hq] at hp
    exact hp.elim
  | some b =>
    unfold eqB at hq
    split at hq
    · cases hq
      have h1 := vw_int vx; have h2 := vw_int vy
      subst h1 h2
      exact fin _ rfl (by simp) rfl
    · cases hq
      have h1 := vw_str vx; have h2 := vw_str vy
      subst h1 h2
      exact fin _ rfl (by simp) rfl
    · cases hq
      have h1 := vw_bool vx; have h2 := vw_bool vy
      subst h1 h2
      exact fin _ rfl (by simp) rfl
    · cases hq
      have h1 := vw_none vx; have h2 := vw_none vy
      subst h1 h2
      exact fin _ rfl (by simp) rfl
    · cases hq
      have h1 := vw_none vx; have h2 := vw_int vy
      subst h1 h2
      exact fin _ rfl (by simp) rfl
    · cases hq
      have h1 := vw_int vx; have h2 := vw_none vy
      subst h1 h2
      exact fin _ rfl (by simp) rfl
    · rename_i n1 n2 n3 n4 n5 n6
      by_cases hz : (SeqAt.shaped d && SeqAt.shaped e) = true
      · rw [if_pos hz] at hq
        obtain ⟨z1, z2⟩ := Bool.and_eq_true_iff.mp hz
        refine deep b ?_ z1 z2 (Option.some.inj hq)
        unfold eqB
        split
        · exact absurd rfl (n1 _ _ rfl)
        · exact absurd rfl (n2 _ _ rfl)
        · exact absurd rfl (n3 _ _ rfl)
        · exact absurd rfl (n4 rfl)
        · exact absurd rfl (n5 _ rfl)
        · exact absurd rfl (n6 _ rfl)
        · rw [if_pos hz]; exact hq
      · rw [if_neg hz] at hq; cases hq
/-- is None -/
def isNon : PyData → Bool
  | .none => true
  | _ => false
theorem vw_non {K : PySem.W.Frag} {H0 F H : Hp} {v : V} {p : Dv} (h : Vw K H0 F H v p) : decide (v = .non) = isNon p.2 := by
  obtain ⟨n, d⟩ := p
  rcases h with h | ⟨a, xs, ds, rfl, e, _⟩
  · cases h <;> simp [isNon]
  · dsimp only at e; subst e; simp [isNon]
def gIsN (neg : Bool) : G2 := fun p q => match q.2 with
  | .none => sc (.bool (if neg = true then !isNon p.2 else isNon p.2))
  | _ => .bad
theorem gIsN_no {neg : Bool} : ∀ p q e x, gIsN neg p q ≠ .ex e x := fun p q e x h => by
  unfold gIsN at h
  split at h <;> cases h
theorem op_gIs : OpR X (compareOp .Is) (rG2 X.K (gIsN false)) := opr_mk fun pins s σ H x y v u Q H0 F m n d e I rx ry fz bs vx vy hp => by
  unfold gIsN at hp
  dsimp only at hp
  split at hp
  · refine op_isN pins s σ H x y v u Q I rx ry ⟨vw_none vy, ?_⟩
    rw [vw_non vx]
    exact sc_ok hp fz (.bl _)
  · exact hp.elim
theorem op_gIsNot : OpR X (compareOp .IsNot) (rG2 X.K (gIsN true)) := opr_mk fun pins s σ H x y v u Q H0 F m n d e I rx ry fz bs vx vy hp => by
  unfold gIsN at hp
  dsimp only at hp
  split at hp
  · refine op_notN pins s σ H x y v u Q I rx ry ⟨vw_none vy, ?_⟩
    rw [vw_non vx]
    exact sc_ok hp fz (.bl _)
  · exact hp.elim
/-- xs[i] -/
def gIx : G2 := fun p q => match p.2, q.2 with
  | .list ds, .int i => match atI ds i with
    | some d => .ok (.sh (p.1 || atom d) d)
    | none => .bad
  | .tuple ds, .int i => match atI ds i with
    | some d => .ok (.sh (p.1 || atom d) d)
    | none => .bad
  | .str x, .int i => match atI x.cps.toList i with
    | some c => grd (decide (x.length ≤ 1000000)) (sc (.str ⟨#[c]⟩))
    | none => .bad
  | _, _ => .bad
theorem gIx_no : ∀ p q e x, gIx p q ≠ .ex e x := fun p q e x h => by
  unfold gIx at h
  split at h
  · split at h <;> cases h
  · split at h <;> cases h
  · split at h
    · unfold grd at h; split at h <;> cases h
    · cases h
  · cases h
theorem atI_get {K : PySem.W.Frag} {H0 F : Hp} {n : Bool} {xs : List V} {ds : List PyData} {i : Int} {d : PyData} (h : IsA K H0 n F xs ds) (e : atI ds i = some d) : ∃ v, atI xs i = some v ∧ Is K H0 n F v d := by
  unfold atI at e ⊢
  rw [← h.length] at e
  cases q : ixN xs.length i with
  | none => rw [q] at e; cases e
  | some j =>
    rw [q] at e
    obtain ⟨v, h1, h2⟩ := h.get (i := j) (d := d) e
    exact ⟨v, h1, h2⟩
theorem ix_g : IxR X (rG2 X.K gIx) := fun value slice pins s σ H x y v u Q I rx ry ⟨H0, F, p, q, fz, bs, vx, vy, hp⟩ hs => by
  obtain ⟨m, d⟩ := p
  obtain ⟨n, e⟩ := q
  unfold gIx at hp
  dsimp only at hp
  split at hp
  · rename_i ds i
    obtain ⟨a, xs, rfl, h1, h2⟩ := vw_list fz vx
    split at hp
    · rename_i d hd
      obtain ⟨w, h3, h4⟩ := atI_get h2 hd
      exact ix_list value slice pins s σ H _ y v u Q I rx ry ⟨a, xs, i, w, rfl, vw_int vy, h1, h3, hp w F H (Ext.refl fz) (h4.orAtom (Same.refl F))⟩ hs
    · exact hp.elim
  · rename_i ds i
    obtain ⟨a, xs, rfl, _, h1, h2⟩ := vw_tup fz vx
    split at hp
    · rename_i d hd
      obtain ⟨w, h3, h4⟩ := atI_get h2 hd
      exact ix_tup value slice pins s σ H _ y v u Q I rx ry ⟨a, xs, i, w, rfl, vw_int vy, h1, h3, hp w F H (Ext.refl fz) (h4.orAtom (Same.refl F))⟩ hs
    · exact hp.elim
  · rename_i z i
    split at hp
    · rename_i c hc
      obtain ⟨hz, hp⟩ := grd_post hp
      exact ix_str value slice pins s σ H x y v u Q I rx ry ⟨z, i, c, vw_str vx, vw_int vy, million' (of_decide_eq_true hz), hc, sc_ok hp fz (.str _)⟩ hs
    · exact hp.elim
  · exact hp.elim
variable {W : WX} {x : Str} {p pos : Pos} {e : Expr} {es : List Expr} {fa : FA} {id T : String} {g : GN}
def fB1 (g : GN) (fa : FA) : FE := fun env => (fa env).bind fun p => (g p.2).bind fun r => .ok (p.1, r)
theorem callb {fa : FA} {g : GN} {σ : St} {H : Hp} {Q : VK} (hg : ∀ p e x, g p ≠ .ex e x) (h : tE X.K X.mg W (fB1 g fa) σ H Q) : tCB (rGN X.K g) (tAV X.K X.mg W fa) σ H Q := by
  obtain ⟨H0, F0, F, env, r, h⟩ := h
  refine ⟨H0, F0, F, env, r, ?_⟩
  unfold fB1 at h
  refine Rs.post_mono (Rs.post_bind.mp h) (fun p hp v F1 H1 r1 v1 e1 e2 => ?_) fun _ _ x => x
  refine ⟨H0, F1, p.2, r1.fz, r1.base, v1, ?_⟩
  have hp := Rs.post_bind.mp hp
  cases z : g p.2 with
  | bad => rw [z] at hp; exact hp.elim
  | ex e x => exact absurd z (hg _ _ _)
  | ok res =>
    rw [z] at hp
    exact fun w F' H' ex hv => hp w F' H' (hv.rel r1 ex) (e1.trans ex.h) (e2.trans ex.f)
theorem d_b (hc : CallR X (.builtin id) (rGN X.K g)) (hgn : ∀ p e x, g p ≠ .ex e x) (hg : Gl X x) (hm : X.mg x = none) (hv : bootBuiltins x = some (.builtin id)) (ha : DAV X W (e :: es) fa) (hn : x ≠ "__name__" := by decide) (hdb : (x == ("__debug__" : Str)) = false := by decide)
    (he : starEach (e :: es) X.env = (false, eval e X.env) :: starEach es X.env := by rfl) (hpl : (backTo pos (starEach es X.env)).any (·.1) = false := by rfl) : DE X W (.Call (.Name x p) (e :: es) [] pos) (fB1 g fa) :=
  pe_le (pe_callB hc hg hm hv ha hn hdb he hpl) fun σ H Q q => callb hgn q
theorem d_ty (hc : CallR X (.type T) (rGN X.K g)) (hgn : ∀ p e x, g p ≠ .ex e x) (hg : Gl X x) (hm : X.mg x = none) (hv : bootBuiltins x = some (.type T)) (ha : DAV X W (e :: es) fa) (hn : x ≠ "__name__" := by decide) (hdb : (x == ("__debug__" : Str)) = false := by decide)
    (he : starEach (e :: es) X.env = (false, eval e X.env) :: starEach es X.env := by rfl) (hpl : (backTo pos (starEach es X.env)).any (·.1) = false := by rfl) : DE X W (.Call (.Name x p) (e :: es) [] pos) (fB1 g fa) :=
  pe_le (pe_callTy hc hg hm hv ha hn hdb he hpl) fun σ H Q q => callb hgn q
/-- a rule of one argument -/
def g1 (f : Dv → Rs R) : GN := fun ps => match ps with
  | [p] => f p
  | _ => .bad
theorem g1_no {f : Dv → Rs R} (h : ∀ p e x, f p ≠ .ex e x) : ∀ ps e x, g1 f ps ≠ .ex e x := fun ps e x q => by
  unfold g1 at q
  split at q
  · exact h _ _ _ q
  · cases q
theorem callr1 {fv : Value} {f : Dv → Rs R} (h : ∀ (pins : List (Addr × Obj)) (s : Shared) (σ : St) (H : Hp) (x : V) (u : Value) (Q : VK) (H0 F : Hp) (n : Bool) (d : PyData), L2.Inv X pins σ H s → RelV x u → Same F H → Same H0 H → Vw X.K H0 F H x (n, d) →
    (f (n, d)).post (fun res => ∀ v F' H', Ext F H F' H' → VRes X.K H0 H F' H' v res → Q v H') (fun _ _ => False) → wpAny (model X.prog X.w) X.A (call fv [u]) (EP X pins σ Q) X.xe s) : CallR X fv (rGN X.K (g1 f)) := fun pins s σ H xs us Q I r hq => by
  obtain ⟨H0, F, ps, fz, bs, va, hp⟩ := hq
  unfold g1 at hp
  split at hp
  · rename_i p
    cases va with
    | cons h1 h2 =>
      cases h2
      cases r with
      | cons r1 r2 =>
        cases r2
        exact h pins s σ H _ _ Q H0 F p.1 p.2 I r1 fz bs h1 hp
  · exact hp.elim
/-- len -/
def bLen (p : Dv) : Rs R := match p.2 with
  | .str x => grd (decide (x.length ≤ 1000000)) (sc (.int x.length))
  | .list ds => sc (.int ds.length)
  | .tuple ds => sc (.int ds.length)
  | _ => .bad
theorem grd_no {α : Type} {b : Bool} {r : Rs α} {e : Env} {x : Exn} (h : r ≠ .ex e x) : grd b r ≠ .ex e x := by
  unfold grd; split
  · exact h
  · exact fun z => nomatch z
theorem bLen_no : ∀ p e x, bLen p ≠ .ex e x := fun p e x => by
  unfold bLen
  split
  · exact grd_no fun z => nomatch z
  · exact fun z => nomatch z
  · exact fun z => nomatch z
  · exact fun z => nomatch z
theorem cr_len : CallR X (.builtin "len") (rGN X.K (g1 bLen)) := callr1 fun pins s σ H x u Q H0 F n d I rx fz bs vx hp => by
  unfold bLen at hp
  dsimp only at hp
  split at hp
  · obtain ⟨hz, hp⟩ := grd_post hp
    obtain rfl := vw_str vx
    exact call_len pins s σ H _ _ Q I (.cons rx .nil) ⟨_, _, rfl, ⟨million' (of_decide_eq_true hz), rfl⟩, sc_ok hp fz (.int _)⟩
  · obtain ⟨a, xs, rfl, h1, h2⟩ := vw_list fz vx
    rw [← h2.length] at hp
    exact call_len pins s σ H _ _ Q I (.cons rx .nil) ⟨_, _, rfl, .inl ⟨xs, h1, rfl⟩, sc_ok hp fz (.int _)⟩
  · obtain ⟨a, xs, rfl, _, h1, h2⟩ := vw_tup fz vx
    rw [← h2.length] at hp
    exact call_len pins s σ H _ _ Q I (.cons rx .nil) ⟨_, _, rfl, .inr ⟨xs, h1, rfl⟩, sc_ok hp fz (.int _)⟩
  · exact hp.elim
/-- int(n), int(True) -/
def bInt (p : Dv) : Rs R := match p.2 with
  | .int i => sc (.int i)
  | .bool b => sc (.int (if b = true then 1 else 0))
  | _ => .bad
theorem bInt_no : ∀ p e x, bInt p ≠ .ex e x := fun p e x => by
  unfold bInt
  split <;> exact fun z => nomatch z
theorem cr_int : CallR X (.type "int") (rGN X.K (g1 bInt)) := callr1 fun pins s σ H x u Q H0 F n d I rx fz bs vx hp => by
  unfold bInt at hp
  dsimp only at hp
  split at hp
  · obtain rfl := vw_int vx
    exact call_int1 pins s σ H _ _ Q I (.cons rx .nil) (.inl ⟨_, rfl, sc_ok hp fz (.int _)⟩)
  · obtain rfl := vw_bool vx
    exact call_int1 pins s σ H _ _ Q I (.cons rx .nil) (.inr ⟨_, rfl, sc_ok hp fz (.int _)⟩)
  · exact hp.elim
/-- str(n) -/
def bStr (p : Dv) : Rs R := match p.2 with
  | .int i => grd (decide (i.natAbs < 2 ^ 60)) (sc (.str (Str.ofString (toString i))))
  | _ => .bad
theorem bStr_no : ∀ p e x, bStr p ≠ .ex e x := fun p e x => by
  unfold bStr
  split
  · exact grd_no fun z => nomatch z
  · exact fun z => nomatch z
theorem log60 {i : Int} (h : i.natAbs < 2 ^ 60) : i.natAbs.log2 < 1920 := by
  by_cases z : i.natAbs = 0
  · rw [z]; decide
  · exact Nat.lt_trans ((Nat.log2_lt z).mpr h) (by decide)
theorem cr_str : CallR X (.type "str") (rGN X.K (g1 bStr)) := callr1 fun pins s σ H x u Q H0 F n d I rx fz bs vx hp => by
  unfold bStr at hp
  dsimp only at hp
  split at hp
  · obtain ⟨hz, hp⟩ := grd_post hp
    obtain rfl := vw_int vx
    exact call_str_int pins s σ H _ _ Q I (.cons rx .nil) ⟨_, rfl, log60 (of_decide_eq_true hz), sc_ok hp fz (.str _)⟩
  · exact hp.elim
/-- repr of a list, a tuple -/
def reprOk (d : PyData) : Bool := PyData.canLay0 d && (PyData.showable d && (decide (d.depth ≤ 60) && decide (d.shown.length ≤ 1000000)))
def bRepr (p : Dv) : Rs R := match p.2 with
  | .list ds => grd (reprOk (.list ds)) (sc (.str (PyData.shown (.list ds))))
  | .tuple ds => grd (reprOk (.tuple ds)) (sc (.str (PyData.shown (.tuple ds))))
  | _ => .bad
theorem bRepr_no : ∀ p e x, bRepr p ≠ .ex e x := fun p e x => by
  unfold bRepr
  split
  · exact grd_no fun z => nomatch z
  · exact grd_no fun z => nomatch z
  · exact fun z => nomatch z
theorem cr_repr (hgd : X.A.guards = some []) (hu : X.A.units + 64 < cLine) : CallR X (.builtin "repr") (rGN X.K (g1 bRepr)) := callr1 fun pins s σ H x u Q H0 F n d I rx fz bs vx hp => by
  have key : ∀ (a : Addr), x = .ref a → reprOk d = true → (sc (.str d.shown)).post (fun res => ∀ v F' H', Ext F H F' H' → VRes X.K H0 H F' H' v res → Q v H') (fun _ _ => False) → wpAny (model X.prog X.w) X.A (call (.builtin "repr") [u]) (EP X pins σ Q) X.xe s := fun a e ok hq => by
    subst e
    unfold reprOk at ok
    rw [Bool.and_eq_true, Bool.and_eq_true, Bool.and_eq_true, decide_eq_true_iff, decide_eq_true_iff] at ok
    obtain ⟨o1, o2, o3, o4⟩ := ok
    obtain ⟨as, rd⟩ := Dp.reads I d _ _ (vw_dp fz vx o1) rx
    cases rx
    refine repr_of_reads' rd o2 (PyData.noDict_hsm (PyData.hasDict_of_canLay d o1)) hgd (by omega) (fun _ _ z => z) (fun h' tk tk' hk => ?_) (million' o4)
    exact ⟨.str d.shown, H, I.kept hk, ⟨_, rfl⟩, sc_ok hq fz (.str _)⟩
  unfold bRepr at hp
  dsimp only at hp
  split at hp
  · obtain ⟨ok, hp⟩ := grd_post hp
    obtain ⟨a, xs, e, _⟩ := vw_list fz vx
    exact key a e ok hp
  · obtain ⟨ok, hp⟩ := grd_post hp
    obtain ⟨a, xs, e, _⟩ := vw_tup fz vx
    exact key a e ok hp
  · exact hp.elim
end
end Dn
namespace Dn
open PySem PySem.Spec L2
section
variable {X : Cx} {W : WX} {x : Str} {p pos : Pos} {e : Expr} {es : List Expr} {f : FE} {fa : FA}
def tyN : PyData → Option String
  | .none => some "NoneType"
  | .bool _ => some "bool"
  | .int _ => some "int"
  | .str _ => some "str"
  | .list _ => some "list"
  | .tuple _ => some "tuple"
  | .dict _ => none
def isT (T : String) (d : PyData) : Option Bool := match tyN d with
  | some t => kitB t T
  | none => none
theorem rd_ty {K : PySem.W.Frag} {H : Hp} {a : Addr} {xs : List V} (h : SqL K H a xs) : TyX K H (.ref a) (.type "list") := by
  rcases h with (h | ⟨o, h⟩) | ⟨o, its, n, h, hc, _⟩
  · exact .base (.lst h)
  · exact .base (.frz h)
  · exact .kList h hc
theorem rt_ty {K : PySem.W.Frag} {H : Hp} {a : Addr} {xs : List V} (h : SqT K H a xs) : TyX K H (.ref a) (.type "tuple") := by
  rcases h with (h | ⟨o, h⟩) | ⟨o, its, n, h, hc, _⟩
  · exact .base (.tup h)
  · exact .fTuple h
  · exact .kTuple h hc
theorem vw_ty {K : PySem.W.Frag} {H0 F H : Hp} {v : V} {q : Dv} {t : String} (fz : Same F H) (h : Vw K H0 F H v q) (ht : tyN q.2 = some t) : TyX K H v (.type t) := by
  obtain ⟨n, d⟩ := q
  cases d with
  | none => cases ht; rw [vw_none h]; exact .base .non
  | bool b => cases ht; rw [vw_bool h]; exact .base (.bl b)
  | int i => cases ht; rw [vw_int h]; exact .base (.int i)
  | str y => cases ht; rw [vw_str h]; exact .base (.str y)
  | list ds => cases ht; obtain ⟨a, xs, rfl, h1, _⟩ := vw_list fz h; exact rd_ty h1
  | tuple ds => cases ht; obtain ⟨a, xs, rfl, _, h1, _⟩ := vw_tup fz h; exact rt_ty h1
  | dict _ => cases ht
def fIsi (T : String) (f : FV) : FE := fun env => (f env).bind fun q => match isT T q.2.2 with
  | some b => .ok (q.1, .sh true (.bool b))
  | none => .bad
theorem d_isi {T : String} {xT : Str} {pT : Pos} (hg : Gl X "isinstance") (hm : X.mg "isinstance" = none) (hv : bootBuiltins "isinstance" = some (.builtin "isinstance")) (hgT : Gl X xT) (hmT : X.mg xT = none) (hvT : bootBuiltins xT = some (.type T)) (h : DE X W e f)
    (hn : xT ≠ "__name__" := by decide) (hdb : (xT == ("__debug__" : Str)) = false := by decide) (h1 : starEach [e, .Name xT pT] X.env = (false, eval e X.env) :: starEach [.Name xT pT] X.env := by rfl) (h2 : starEach [.Name xT pT] X.env = (false, eval (.Name xT pT) X.env) :: starEach [] X.env := by rfl)
    (hpl : (backTo pos (starEach [.Name xT pT] X.env)).any (·.1) = false := by rfl) : DE X W (.Call (.Name "isinstance" p) [e, .Name xT pT] [] pos) (fIsi T (rd f)) :=
  pe_le (pe_callB call_isi hg hm hv (pa_cons h.v (pa_cons (pe_bltn (v := .ty T) hgT hmT hvT rfl hn hdb) pa_nil h2) h1) (by decide) (by decide) h1 hpl) fun σ H Q ⟨H0, F0, F, env, r, q⟩ => by
    refine ⟨H0, F0, F, env, r, ?_⟩
    unfold fIsi at q
    refine Rs.post_mono (Rs.post_bind.mp q) (fun p hp v F1 H1 r1 v1 e1 e2 => ?_) fun _ _ x => x
    split at hp
    · rename_i b hb
      unfold isT at hb
      split at hb
      · rename_i t ht
        exact ⟨v, .ty T, .type t, .type T, b, rfl, .ty T, vw_ty r1.fz v1 ht, kit_ty hb, hp _ F1 H1 ⟨r1, .bl b⟩ e1 e2⟩
      · cases hb
    · exact hp.elim
def fFmt (f : FV) : FV := fun env => (f env).bind fun q => match q.2.2 with
  | .str y => grd (decide (y.length ≤ 1000000)) (.ok (q.1, (true, .str y)))
  | .int i => grd (decide (i.natAbs < 2 ^ 60)) (.ok (q.1, (true, .str (Str.ofString (toString i)))))
  | _ => .bad
theorem v_fmt (h : DE X W e f) : DV X W (.FormattedValue e (-1) none pos) (fFmt (rd f)) := pe_le (pe_fmt h.v) fun σ H Q ⟨H0, F0, F, env, r, q⟩ => by
  refine ⟨H0, F0, F, env, r, ?_⟩
  unfold fFmt at q
  refine Rs.post_mono (Rs.post_bind.mp q) (fun p hp v F1 H1 r1 v1 e1 e2 => ?_) fun _ _ x => x
  obtain ⟨env', n, d⟩ := p
  dsimp only at hp v1
  split at hp
  · rename_i y
    obtain ⟨hz, hp⟩ := grd_post hp
    exact .inl ⟨y, vw_str v1, million' (of_decide_eq_true hz), hp _ F1 H1 r1 (.inl (.str y)) e1 e2⟩
  · rename_i i
    obtain ⟨hz, hp⟩ := grd_post hp
    exact .inr ⟨i, vw_int v1, log60 (of_decide_eq_true hz), hp _ F1 H1 r1 (.inl (.str _)) e1 e2⟩
  · exact hp.elim
def fJs : List FV → Str → Env → Rs (Env × Str)
  | [], acc, env => .ok (env, acc)
  | f :: fs, acc, env => (f env).bind fun q => match q.2.2 with
    | .str y => grd (decide ((acc ++ y).length ≤ 1000000)) (fJs fs (acc ++ y) q.1)
    | _ => .bad
inductive DJ (X : Cx) (W : WX) : List Expr → List FV → Prop where
  | nil : DJ X W [] []
  | cons {e : Expr} {es : List Expr} {f : FV} {fs : List FV} (h : DV X W e f) (t : DJ X W es fs) : DJ X W (e :: es) (f :: fs)
theorem DJ.pj {es : List Expr} {fs : List FV} (h : DJ X W es fs) : PJ X es (fs.map (tV X.K X.mg W)) := by
  induction h with
  | nil => exact .nil
  | cons h _ ih => exact .cons h ih
theorem js_le {H0 F0 F00 H00 : Hp} {σ : St} {Q : VK} : ∀ (fs : List FV) (acc : Str) (env : Env) (F H : Hp), Same H00 H → Same F00 F → Rel X.K H0 F0 env σ F H →
    (fJs fs acc env).post (fun q => ∀ F' H', Rel X.K H0 F0 q.1 σ F' H' → Same H00 H' → Same F00 F' → Q (.str q.2) H') (ExP X.K X.mg W H0 F0 F00 H00 σ) → tJs (fs.map (tV X.K X.mg W)) acc σ H fun out H1 => Q (.str out) H1
  | [], acc, env, F, H, k1, k2, r, h => h F H r k1 k2
  | f :: fs, acc, env, F, H, k1, k2, r, h => by
    refine ⟨H0, F0, F, env, r, ?_⟩
    unfold fJs at h
    refine Rs.post_mono (Rs.post_bind.mp h) (fun p hp v F1 H1 r1 v1 e1 e2 => ?_) fun _ _ x => x.to k2 k1
    obtain ⟨env', n, d⟩ := p
    dsimp only at hp v1
    split at hp
    · rename_i y
      obtain ⟨hz, hp⟩ := grd_post hp
      exact ⟨y, vw_str v1, million' (of_decide_eq_true hz), js_le fs (acc ++ y) env' F1 H1 (k1.trans e1) (k2.trans e2) r1 hp⟩
    · exact hp.elim
def fJoined (fs : List FV) : FE := fun env => (fJs fs Str.empty env).bind fun q => .ok (q.1, .sh true (.str q.2))
theorem d_joined {v1 v2 : Expr} {rest : List Expr} {fs : List FV} (h : DJ X W (v1 :: v2 :: rest) fs) : DE X W (.JoinedStr (v1 :: v2 :: rest) pos) (fJoined fs) :=
  pe_le (pe_joined h.pj) fun σ H Q ⟨H0, F0, F, env, r, q⟩ => by
    unfold fJoined at q
    exact js_le fs Str.empty env F H (Same.refl H) (Same.refl F) r (Rs.post_mono (Rs.post_bind.mp q) (fun p hp F' H' r' e1 e2 => hp _ F' H' ⟨r', .str _⟩ e1 e2) fun _ _ x => x)
def strsOf : List PyData → Option (List Str)
  | [] => some []
  | .str x :: ds => (strsOf ds).map (x :: ·)
  | _ => none
theorem strs_is {K : PySem.W.Frag} {H0 F : Hp} {n : Bool} : ∀ {ds : List PyData} {xs : List V} {ys : List Str}, IsA K H0 n F xs ds → strsOf ds = some ys → xs = ys.map V.str
  | _, _, _, .nil, e => by cases e; rfl
  | _, _, _, .cons h t, e => by
    cases h with
    | str x =>
      unfold strsOf at e
      cases q : strsOf _ with
      | none => rw [q] at e; cases e
      | some zs =>
        rw [q] at e
        cases e
        rw [strs_is t q]; rfl
    | _ => cases e
def seqOf : PyData → Option (List PyData)
  | .list ds => some ds
  | .tuple ds => some ds
  | _ => none
theorem vw_seq {K : PySem.W.Frag} {H0 F H : Hp} {v : V} {n : Bool} {d : PyData} {ds : List PyData} (fz : Same F H) (h : Vw K H0 F H v (n, d)) (hs : seqOf d = some ds) : ∃ a xs, v = .ref a ∧ (SqL K H a xs ∨ SqT K H a xs) ∧ IsA K H0 n F xs ds := by
  cases d with
  | list es => cases hs; obtain ⟨a, xs, h1, h2, h3⟩ := vw_list fz h; exact ⟨a, xs, h1, .inl h2, h3⟩
  | tuple es => cases hs; obtain ⟨a, xs, h1, _, h2, h3⟩ := vw_tup fz h; exact ⟨a, xs, h1, .inr h2, h3⟩
  | _ => cases hs
def gJoin (a : Str) (d : PyData) : Option Str := match seqOf d with
  | some ds => match strsOf ds with
    | some ys => if (ys.map (·.length)).sum + ys.length * a.length ≤ 1000000 then some (Txt.join a ys) else none
    | none => none
  | none => none
def fJoin (fo f : FV) : FE := fun env => (fo env).bind fun q => match q.2.2 with
  | .str a => (f q.1).bind fun r => match gJoin a r.2.2 with
    | some z => .ok (r.1, .sh true (.str z))
    | none => .bad
  | _ => .bad
theorem d_join {o : Expr} {fo : FE} {apos : Pos} (ho : DE X W o fo) (h : DE X W e f) (h1 : starEach [e] X.env = [(false, eval e X.env)] := by rfl) (h2 : attributeBase o "join" X.env (eval o X.env) = eval o X.env := by rfl) (h3 : (apos.endLine == pos.line) = true := by rfl) :
    DE X W (.Call (.Attribute o "join" apos) [e] [] pos) (fJoin (rd fo) (rd f)) := pe_le (pe_join ho.v h.v h1 h2 h3) fun σ H Q ⟨H0, F0, F, env, r, q⟩ => by
  refine ⟨H0, F0, F, env, r, ?_⟩
  unfold fJoin at q
  refine Rs.post_mono (Rs.post_bind.mp q) (fun p hp v F1 H1 r1 v1 e1 e2 => ?_) fun _ _ x => x
  obtain ⟨env1, n, d⟩ := p
  dsimp only at hp v1
  split at hp
  · rename_i a
    refine ⟨⟨a, vw_str v1⟩, H0, F0, F1, env1, r1, ?_⟩
    refine Rs.post_mono (Rs.post_bind.mp hp) (fun p2 hp2 u F2 H2 r2 v2 e3 e4 => ?_) fun _ _ x => x.to e2 e1
    obtain ⟨env2, m, d2⟩ := p2
    dsimp only at hp2 v2
    split at hp2
    · rename_i z hz
      unfold gJoin at hz
      split at hz
      · rename_i ds hds
        split at hz
        · rename_i ys hys
          split at hz
          · rename_i hb
            cases hz
            obtain ⟨b, xs, rfl, h4, h5⟩ := vw_seq r2.fz v2 hds
            have := strs_is h5 hys
            subst this
            exact ⟨a, b, ys, vw_str v1, rfl, h4, Nat.le_trans hb (by decide), hp2 _ F2 H2 ⟨r2, .str _⟩ (e1.trans e3) (e2.trans e4)⟩
          · cases hz
        · cases hz
      · cases hz
    · exact hp2.elim
  · exact hp.elim
abbrev FO := Env → Rs (Env × Option Int)
def tOo (K : PySem.W.Frag) (mg : Str → Option Value) (W : WX) (f : FO) : TO := fun σ H Q => ∃ H0 F0 F env, Rel K H0 F0 env σ F H ∧
  (f env).post (fun p => ∀ F' H', Rel K H0 F0 p.1 σ F' H' → Same H H' → Same F F' → Q p.2 H') (ExP K mg W H0 F0 F H σ)
def fNo : FO := fun env => .ok (env, none)
def fPart (f : FV) : FO := fun env => (f env).bind fun q => match q.2.2 with
  | .int i => .ok (q.1, some i)
  | _ => .bad
abbrev DO (X : Cx) (W : WX) (e : Option Expr) (f : FO) : Prop := PO X e (tOo X.K X.mg W f)
theorem po_le {e : Option Expr} {t t' : TO} (h : PO X e t) (l : ∀ σ H Q, t' σ H Q → t σ H Q) : PO X e t' := ⟨fun pins s σ H Q I q => h.run pins s σ H Q I (l σ H Q q)⟩
theorem o_none : DO X W none fNo := po_le po_none fun σ H Q ⟨H0, F0, F, env, r, q⟩ => q F H r (Same.refl H) (Same.refl F)
theorem o_some (h : DE X W e f) : DO X W (some e) (fPart (rd f)) := po_le (po_some h.v) fun σ H Q ⟨H0, F0, F, env, r, q⟩ => by
  refine ⟨H0, F0, F, env, r, ?_⟩
  unfold fPart at q
  refine Rs.post_mono (Rs.post_bind.mp q) (fun p hp v F1 H1 r1 v1 e1 e2 => ?_) fun _ _ x => x
  obtain ⟨env1, n, d⟩ := p
  dsimp only at hp v1
  split at hp
  · rename_i i
    exact ⟨i, vw_int v1, hp F1 H1 r1 e1 e2⟩
  · exact hp.elim
def cutD {α : Type} (xs : List α) (lo hi : Option Int) : List α := (xs.drop (HT.sIx xs.length 0 lo)).take (HT.sIx xs.length xs.length hi - HT.sIx xs.length 0 lo)
def gSl (q : Dv) (lo hi : Option Int) : Rs R := match q.2 with
  | .list ds => .ok (.nw q.1 (cutD ds lo hi))
  | .tuple ds => .ok (.sh q.1 (.tuple (cutD ds lo hi)))
  | .str z => grd (decide (z.length ≤ 1000000)) (sc (.str (cutS z lo hi)))
  | _ => .bad
def rGS (K : PySem.W.Frag) : V → Option Int → Option Int → Hp → VK → Prop := fun x lo hi H Q => ∃ H0 F q, Same F H ∧ Same H0 H ∧ Vw K H0 F H x q ∧ (gSl q lo hi).post (fun res => ∀ v F' H', Ext F H F' H' → VRes K H0 H F' H' v res → Q v H') (fun _ _ => False)
theorem cutD_is {K : PySem.W.Frag} {H0 F : Hp} {n : Bool} {xs : List V} {ds : List PyData} (h : IsA K H0 n F xs ds) (lo hi : Option Int) : IsA K H0 n F (cutV xs lo hi) (cutD ds lo hi) := by
  unfold cutV cutD
  rw [h.length]
  exact (h.drop _).take _
theorem sl_g : SlR X (rGS X.K) := fun pins s σ H x v vl vu lo hi sl Q I rx hs pl pu ⟨H0, F, q, fz, bs, vx, hp⟩ => by
  obtain ⟨n, d⟩ := q
  unfold gSl at hp
  dsimp only at hp
  split at hp
  · obtain ⟨a, xs, rfl, h1, h2⟩ := vw_list fz vx
    exact sl_list pins s σ H _ v vl vu lo hi sl Q I rx hs pl pu ⟨a, xs, rfl, h1, fun r hr => hp _ F _ (Ext.allocH fz hr) ⟨_, _, rfl, hr, same_none fz hr, upd_same, cutD_is h2 lo hi⟩⟩
  · rename_i ds
    obtain ⟨a, xs, rfl, h0, h1, h2⟩ := vw_tup fz vx
    refine sl_tupA pins s σ H _ v vl vu lo hi sl Q I rx hs pl pu ⟨a, xs, rfl, h1, fun hw => ?_, fun hw r hr => ?_⟩
    · have : cutD ds lo hi = ds := by
        unfold cutD
        rw [← h2.length, hw.1, hw.2, h2.length]
        simp
      rw [this] at hp
      exact hp _ F H (Ext.refl fz) (.tup h0 h2)
    · exact hp _ (upd F r (.tup (cutV xs lo hi))) _ (Ext.alloc fz hr) (.tup upd_same ((cutD_is h2 lo hi).to (same_new (same_none fz hr))))
  · rename_i z
    obtain ⟨hz, hp⟩ := grd_post hp
    exact sl_str pins s σ H x v vl vu lo hi sl Q I rx hs pl pu ⟨z, vw_str vx, million' (of_decide_eq_true hz), sc_ok hp fz (.str _)⟩
  · exact hp.elim
theorem gSl_no : ∀ q lo hi e x, gSl q lo hi ≠ .ex e x := fun q lo hi e x => by
  unfold gSl
  split
  · exact fun z => nomatch z
  · exact fun z => nomatch z
  · exact grd_no fun z => nomatch z
  · exact fun z => nomatch z
def fSl (f : FV) (fl fh : FO) : FE := fun env => (f env).bind fun q => (fl q.1).bind fun l => (fh l.1).bind fun h => (gSl q.2 l.2 h.2).bind fun r => .ok (h.1, r)
theorem d_slice {lo hi : Option Expr} {fl fh : FO} {p2 : Pos} (he : DE X W e f) (hl : DO X W lo fl) (hh : DO X W hi fh) : DE X W (.Subscript e (.Slice lo hi none p2) pos) (fSl (rd f) fl fh) :=
  pe_le (pe_slice sl_g he.v hl hh) fun σ H Q ⟨H0, F0, F, env, r, q⟩ => by
    refine ⟨H0, F0, F, env, r, ?_⟩
    unfold fSl at q
    refine Rs.post_mono (Rs.post_bind.mp q) (fun p hp v F1 H1 r1 v1 e1 e2 => ?_) fun _ _ x => x
    refine ⟨H0, F0, F1, p.1, r1, ?_⟩
    refine Rs.post_mono (Rs.post_bind.mp hp) (fun l hl F2 H2 r2 e3 e4 => ?_) fun _ _ x => x.to e2 e1
    refine ⟨H0, F0, F2, l.1, r2, ?_⟩
    refine Rs.post_mono (Rs.post_bind.mp hl) (fun h hh F3 H3 r3 e5 e6 => ?_) fun _ _ x => x.to (e2.trans e4) (e1.trans e3)
    refine ⟨H0, F3, p.2, r3.fz, r3.base, v1.to (e4.trans e6) (e3.trans e5), ?_⟩
    have hh := Rs.post_bind.mp hh
    cases z : gSl p.2 l.2 h.2 with
    | bad => rw [z] at hh; exact hh.elim
    | ex e x => exact absurd z (gSl_no _ _ _ _ _)
    | ok res =>
      rw [z] at hh
      exact fun w F' H' ex hv => hh w F' H' (hv.rel r3 ex) (((e1.trans e3).trans e5).trans ex.h) (((e2.trans e4).trans e6).trans ex.f)
theorem s_setLc (i : Nat) {y : Str} {py spos : Pos} {elt tg iter : Expr} {ifs : List Expr} {scope : Scope} {own : List (Str × Nat)} {is : List Nat} {fi : FA} {g : FG} {t : FT} {fe : FE} (hc : X.calm = true) (hN : X.N.Nodup) (hi : X.N[i]? = some y) (hy : List.lookup y X.env.scope.names = some .local)
    (hsw : swapsWith (.ListComp elt [⟨tg, iter, ifs, 0⟩] scope pos) (some (.Name y py)) spos.line X.env = pure true) (hit : DI X W tg iter fi) (ok : BlkOk X.N X.env.scope scope own) (his : ∀ i ∈ is, i ∈ own.map (·.2))
    (hg : ∀ (s : Shared) (H : Hp) (C : Addr) (cl : List (Str × Addr)) (fp : List Addr), DG (X.blk s H scope (compEnvC scope cl C X.env) fp) tg is g)
    (ht : ∀ (s : Shared) (H : Hp) (C : Addr) (cl : List (Str × Addr)) (fp : List Addr), PTs (X.blk s H scope (compEnvC scope cl C X.env) fp) ifs (tT X.K X.mg W0 t))
    (he : ∀ (s : Shared) (H : Hp) (C : Addr) (cl : List (Str × Addr)) (fp : List Addr), DE (X.blk s H scope (compEnvC scope cl C X.env) fp) W0 elt fe) (hs : ∀ x, foldedSetIterable iter X.env x = pure x := by intro _; rfl) :
    DS X W (.Assign [.Name y py] (.ListComp elt [⟨tg, iter, ifs, 0⟩] scope pos) spos) (fSet i (fLc (own.map (·.2)) fi g t (st fe))) :=
  ps_le (ps_setLc hc hN hi hy hsw hit ok hg ht (fun s H C cl fp => (he s H C cl fp).d) hs) fun D σ H q => lc_le his (via (te := tC .non) q fun H0 F0 F env p r hp v F' H' hr _ e2 => by
    obtain ⟨e1, q1, q2⟩ := put_post hp
    obtain ⟨F2, e3, r2⟩ := put_ok hr q1
    exact q2 _ F2 H' r2 (e2.trans e3))
end
end Dn
namespace Dn
open PySem PySem.Spec L2
section
variable {P : Program} {w : World} {K : PySem.W.Frag} {mg mb : Str → Option Value} {k : Nat} {fa a : Addr} {fd : FuncData} {x : Str} {S : SF} {s1 : Shared} {vs : List Value} {ns : List Int}
/-- the abstract heap at the entry: at most the script is told -/
structure Entry (K : PySem.W.Frag) (s1 : Shared) (a : Addr) (ns : List Int) (P : Program) (w : World) (H : Hp) : Prop where
  seq : SqL K H a (ns.map V.int)
  ok : HOk P w H s1.heap
  one : ∀ b, H b ≠ none → b = a
  kfree : H a ≠ none → K.lookup a = none
  frz : ∀ b u, H b = some u → ∃ o xs, u = .frz o (.lst xs)
theorem entry_of (kin : K.In s1.heap) (ha : s1.heap.get? a = some { cls := .type "list", data := .seq vs.toArray }) (hi : PyProof.Rows.IntsAre vs ns) (hl : ns.length ≤ sizeLine) : ∃ H, Entry K s1 a ns P w H := by
  have rv := vals_ints hi
  have hlen := hi.length
  cases hk : K.lookup a with
  | some o =>
    have e := kin a o hk
    rw [ha] at e
    cases e
    exact ⟨fun _ => none, .inr ⟨_, vs.toArray, _, hk, rfl, rfl, rfl, by rw [List.size_toArray, hlen]; exact hl, by simpa using rv⟩, fun b u z => (nomatch z), fun b z => absurd rfl z, fun z => absurd rfl z, fun b u z => (nomatch z)⟩
  | none =>
    have at_a : ∀ b u, (if b = a then some (HO.frz { cls := .type "list", data := .seq vs.toArray } (.lst (ns.map V.int))) else none) = some u → b = a ∧ u = .frz { cls := .type "list", data := .seq vs.toArray } (.lst (ns.map V.int)) := fun b u z => by
      by_cases y : b = a
      · rw [if_pos y] at z; exact ⟨y, (Option.some.inj z).symm⟩
      · rw [if_neg y] at z; cases z
    refine ⟨fun b => if b = a then some (.frz { cls := .type "list", data := .seq vs.toArray } (.lst (ns.map V.int))) else none, .inl (.inr ⟨_, if_pos rfl⟩), fun b u z => ?_, fun b z => ?_, fun _ => hk, fun b u z => ⟨_, _, (at_a b u z).2⟩⟩
    · obtain ⟨rfl, rfl⟩ := at_a b u z
      exact ⟨ha, by rw [List.length_map]; exact hl, vs, _, rv, ha⟩
    · by_cases y : b = a
      · exact y
      · exact absurd (if_neg y) z
theorem law_g (kin : K.In s1.heap) (hns : s1.heap.Ns mainGlobals mg) (hb : s1.heap.Ns builtinsNs mb) (hbb : ∀ x : Str, x ≠ "__name__" → mb x = bootBuiltins x) (hlim : s1.heap.NoLimit) (hg : s1.gens = #[])
    (ha : s1.heap.get? a = some { cls := .type "list", data := .seq vs.toArray }) (hi : PyProof.Rows.IntsAre vs ns) (hl : ns.length ≤ sizeLine) (hr : Room k callerA)
    (F : ∀ base : Heap, K.In base → base.Ns mainGlobals mg → FnG P w K mg base k fa fd [x] S) (hbind : ∀ (s : Shared) (u : Value), BindsTo s fd ⟨[u], []⟩ [(x, u)]) (hS : S [.list (ns.map .int)] = .ok (.sh true (.bool true))) :
    codeAny (model P w) callerA (.call (.ref fa) ⟨[.ref a], []⟩) (fun r s' => r = .ok (.ret (.bool true)) ∧ OldK s1.heap s'.heap ∧ s'.os = s1.os ∧ PyProof.Rows.AllBare s'.gens) s1 := by
  obtain ⟨H, en⟩ := entry_of (P := P) (w := w) kin ha hi hl
  -- what is no list is not tracked
  have nodict : ∀ {b : Addr} {o : Obj} {es : Array DictEntry} {ep : Nat}, s1.heap.get? b = some o → o.data = .dict es ep → H b = none := fun {b o es ep} e d => by
    cases q : H b with
    | none => rfl
    | some u =>
      have y := en.one b (by rw [q]; exact fun z => nomatch z)
      subst y
      rw [ha] at e
      cases e
      cases d
  have ns_ : ∀ {b : Addr} {m : Str → Option Value}, s1.heap.Ns b m → (hidT s1.heap H).Ns b m := fun {b m} h => by
    obtain ⟨o, es, ep, e, d, r⟩ := h
    exact ⟨o, es, ep, hidT_get e (nodict e d), d, r⟩
  have kb : K.In (hidT s1.heap H) := fun b o e => by
    refine hidT_get (kin b o e) ?_
    cases q : H b with
    | none => rfl
    | some u =>
      have y := en.one b (by rw [q]; exact fun z => nomatch z)
      subst y
      rw [en.kfree (by rw [q]; exact fun z => nomatch z)] at e
      cases e
  have lim : (hidT s1.heap H).NoLimit := by
    obtain ⟨mc, h1, h2⟩ := hlim
    exact ⟨mc, ns_ h1, h2⟩
  have env0 : Env0 P w K mg (hidT s1.heap H) callerA [] s1 H := ⟨rfl, ⟨kb, ns_ hns, ⟨mb, ns_ hb, hbb⟩, lim⟩, fun b o e => of_hidT e, Nat.le_of_eq (hidT_size _ _), trivial, fun b z => (List.not_mem_nil z).elim, en.ok, .of_eq hg⟩
  have sp : spD K mg [x].length S [.ref a] H (fun v _ => v = .bl true) (fun _ _ _ => False) := ⟨H, [.list (ns.map .int)], rfl, Same.refl H, .cons (.lst en.seq (fun z => nomatch z) (IsA.ints ns)) .nil, by
    rw [hS]
    intro v F' H' _ hv
    have hv : Is K H true F' v (.bool true) := hv
    cases hv; rfl⟩
  refine codeAny_mono ((F _ kb (ns_ hns)).run callerA [] s1 H ⟨[.ref a], []⟩ [.ref a] [.ref a] _ _ hr rfl env0 (hbind s1 (.ref a)) (.cons rfl .nil) sp) fun r s' h => ?_
  cases r with
  | error e =>
    obtain ⟨_, _, _, _, _, _, _, _, _, _, _, _, z⟩ := h
    exact z.elim
  | ok fl =>
    cases fl with
    | ret u =>
      obtain ⟨v, H', os, bare, un, hok', rr, rfl⟩ := h
      obtain rfl : u = Value.bool true := rr
      refine ⟨rfl, OldK.of_keep fun b o e => ?_, os, bare⟩
      cases q : H b with
      | none => exact un.keep b o e q (fun z => List.not_mem_nil z) (fun z => List.not_mem_nil z)
      | some u =>
        obtain ⟨ob, xs, rfl⟩ := en.frz b u q
        obtain ⟨e1, _⟩ := en.ok b _ q
        obtain ⟨e2, _⟩ := hok' b _ (un.frzs b ob _ q)
        rw [e] at e1
        cases e1
        exact e2
    | next => exact (h : False).elim
    | brk => exact (h : False).elim
    | cont => exact (h : False).elim
end
theorem walk_d {l : PySem.W.OpenLaw} {n k : Nat} {q : Program} {loose : List Str} {XP : (Str → Option Value) → Heap → Prop} {YP : World → Heap → Prop} {d : DefRec} {K : Params → PySem.W.Frag} {S : SF} {x : Str}
    (hn : l.most = some n) (hn2 : n ≤ sizeLine) (hdf : d.params.defaults = []) (hr : Room k callerA) (hY : ∀ (w : World) (h : Heap), YP w h → (K w.params).In h)
    (F : ∀ (w : World) (mg : Str → Option Value) (fa : Addr) (h : Heap), (K w.params).In h → h.Ns mainGlobals mg → mg d.name = some (.ref fa) →
      ∃ fd : FuncData, (∀ (s : Shared) (u : Value), BindsTo s fd ⟨[u], []⟩ [(x, u)]) ∧ ∀ base : Heap, (K w.params).In base → base.Ns mainGlobals mg → FnG l.prog w (K w.params) mg base k fa fd [x] S)
    (hS : ∀ ns : List Int, ns.length ≤ n → S [.list (ns.map .int)] = .ok (.sh true (.bool true))) : PySem.W.WalkO q loose XP YP l.row.toRowW d [] (fun f vs => PySem.call f vs) := by
  refine Att.attach_call hn hdf fun w s0 s1 mg mb fa o pm cd doc a vs ns G Y ho hd hcd hmg hobj hints hlen hg => ?_
  obtain ⟨fd, hb, hF⟩ := F w mg fa _ (hY w _ Y) G.T.g hmg
  exact law_g (hY w _ Y) G.T.g G.T.b G.T.builtins G.T.nolimit hg hobj hints (Nat.le_trans hlen hn2) hr hF hb (hS ns hlen)
end Dn
namespace Dn
open PySem PySem.Spec L2
def fgO (is : List Nat) : Out → Out
  | .nx e => .nx (wipeE e is)
  | .bk e => .bk (wipeE e is)
  | .ct e => .ct (wipeE e is)
  | .rt r => .rt r
def fFg (is : List Nat) (f : FS) : FS := fun env => (f env).bind fun o => .ok (fgO is o)
theorem rel_fg {K : PySem.W.Frag} {H0 F0 F H : Hp} {env : Env} {σ : St} (is : List Nat) (r : Rel K H0 F0 env σ F H) : Rel K H0 F0 (wipeE env is) σ F H :=
  r.sub (by rw [wipeE_length]; exact r.len) fun i s q => .inl ⟨(wipeE_get q).2, rfl⟩
theorem ss_forget {X : Cx} {W : WX} (is : List Nat) {bs : List Stmt} {f : FS} (h : DSs X W bs f) : DSs X W bs (fFg is f) := pss_le h fun D σ H ⟨H0, F0, F, env, r, q⟩ => by
  refine ⟨H0, F0, F, env, r, ?_⟩
  unfold fFg at q
  refine Rs.post_mono (Rs.post_bind.mp q) (fun o ho => ?_) fun _ _ x => x
  cases o with
  | nx e => exact fun σ' F' H' r' s' => ho σ' F' H' (rel_fg is r') s'
  | bk e => exact fun σ' F' H' r' s' => ho σ' F' H' (rel_fg is r') s'
  | ct e => exact fun σ' F' H' r' s' => ho σ' F' H' (rel_fg is r') s'
  | rt r => exact ho
/-- what stands in a slot; a slot set -/
def gt : Env → Nat → Option Sl
  | [], _ => none
  | s :: _, 0 => s
  | _ :: r, i + 1 => gt r i
def pt : Env → Nat → Option Sl → Env
  | [], _, _ => []
  | _ :: r, 0, x => x :: r
  | s :: r, i + 1, x => s :: pt r i x
theorem gt_eq : ∀ (env : Env) (i : Nat), env.getD i none = gt env i
  | [], i => by simp [gt]
  | s :: r, 0 => by simp [gt]
  | s :: r, i + 1 => by simpa [gt] using gt_eq r i
theorem pt_eq : ∀ (env : Env) (i : Nat) (x : Option Sl), env.set i x = pt env i x
  | [], i, x => by simp [pt]
  | s :: r, 0, x => by simp [pt]
  | s :: r, i + 1, x => by simpa [pt] using pt_eq r i x
theorem gt_m {α : Type} (env : Env) (i : Nat) (f : Sl → α) (z : α) : (match env[i]? with
    | some (some s) => f s
    | _ => z) = (match gt env i with
    | some s => f s
    | none => z) := by
  rw [← gt_eq, List.getD_eq_getElem?_getD]
  cases env[i]? with
  | none => rfl
  | some s => cases s <;> rfl
@[simp] theorem gt_nil {i : Nat} : gt [] i = none := rfl
@[simp] theorem gt_zero {s : Option Sl} {r : Env} : gt (s :: r) 0 = s := rfl
@[simp] theorem gt_succ {s : Option Sl} {r : Env} {i : Nat} : gt (s :: r) (i + 1) = gt r i := rfl
@[simp] theorem pt_zero {s x : Option Sl} {r : Env} : pt (s :: r) 0 x = x :: r := rfl
@[simp] theorem pt_succ {s x : Option Sl} {r : Env} {i : Nat} : pt (s :: r) (i + 1) x = s :: pt r i x := rfl
theorem bind_congr {α β : Type} {x y : Rs α} {k : α → Rs β} (h : x = y) : x.bind k = y.bind k := by rw [h]
/-- what a slot gives -/
def atS (env : Env) (i : Nat) : Option Sl → Rs (Env × R)
  | some (.sh n d) => .ok (env, .sh n d)
  | some (.ow _ _) => .ok (env, .own i)
  | _ => .bad
def vwS (env : Env) : Option Sl → Rs (Env × Dv)
  | some (.ow n ds) => .ok (env, (n, .list ds))
  | _ => .bad
def kpS (env : Env) (i : Nat) : Option Sl → Rs (Env × Dv)
  | some s => .ok (pt env i (some (.sh s.flag s.data)), (s.flag, s.data))
  | none => .bad
def rdR (p : Env × R) : Rs (Env × Dv) := match p.2 with
  | .sh n d => .ok (p.1, (n, d))
  | .nw n ds => .ok (p.1, (n, .list ds))
  | .own i => vwS p.1 (gt p.1 i)
def stR (p : Env × R) : Rs (Env × Dv) := match p.2 with
  | .sh n d => .ok (p.1, (n, d))
  | .nw n ds => .ok (p.1, (n, .list ds))
  | .own i => kpS p.1 i (gt p.1 i)
section
variable {env : Env} {i : Nat} {n : Bool} {d : PyData} {ds : List PyData} {s : Sl}
@[simp] theorem atS_sh : atS env i (some (.sh n d)) = .ok (env, .sh n d) := rfl
@[simp] theorem atS_ow : atS env i (some (.ow n ds)) = .ok (env, .own i) := rfl
@[simp] theorem vwS_ow : vwS env (some (.ow n ds)) = .ok (env, (n, .list ds)) := rfl
@[simp] theorem kpS_some : kpS env i (some s) = .ok (pt env i (some (.sh s.flag s.data)), (s.flag, s.data)) := rfl
@[simp] theorem rdR_sh : rdR (env, .sh n d) = .ok (env, (n, d)) := rfl
@[simp] theorem rdR_nw : rdR (env, .nw n ds) = .ok (env, (n, .list ds)) := rfl
@[simp] theorem rdR_own : rdR (env, .own i) = vwS env (gt env i) := rfl
@[simp] theorem stR_sh : stR (env, .sh n d) = .ok (env, (n, d)) := rfl
@[simp] theorem stR_nw : stR (env, .nw n ds) = .ok (env, (n, .list ds)) := rfl
@[simp] theorem stR_own : stR (env, .own i) = kpS env i (gt env i) := rfl
end
section
variable {env : Env} {g h : FS} {f fa fb : FE} {v va vb : FV} {t u : FT} {a : FA} {i : Nat} {n : Bool} {d : PyData} {ds : List PyData}
theorem get_gt (env : Env) (i : Nat) : (env[i]?).join = gt env i := by
  rw [← gt_eq, List.getD_eq_getElem?_getD]
  cases env[i]? <;> rfl
theorem fVar_ap : fVar i env = atS env i (gt env i) := by
  unfold fVar
  rw [← get_gt]
  cases env[i]? with
  | none => rfl
  | some s =>
    cases s with
    | none => rfl
    | some s => cases s <;> rfl
theorem fC_ap : fC d env = .ok (env, .sh true d) := rfl
theorem vw_m (e : Env) (i : Nat) : (match e[i]? with
    | some (some (.ow n ds)) => (.ok (e, (n, .list ds)) : Rs (Env × Dv))
    | _ => .bad) = vwS e (gt e i) := by
  rw [← get_gt]
  cases e[i]? with
  | none => rfl
  | some s =>
    cases s with
    | none => rfl
    | some s => cases s <;> rfl
theorem kp_m (e : Env) (i : Nat) : (match e[i]? with
    | some (some s) => (.ok (e.set i (some (.sh s.flag s.data)), (s.flag, s.data)) : Rs (Env × Dv))
    | _ => .bad) = kpS e i (gt e i) := by
  rw [← get_gt]
  cases e[i]? with
  | none => rfl
  | some s =>
    cases s with
    | none => rfl
    | some s =>
      show (.ok (e.set i (some (.sh s.flag s.data)), (s.flag, s.data)) : Rs (Env × Dv)) = _
      rw [pt_eq]; rfl
theorem rd_ap : rd f env = (f env).bind rdR := by
  unfold rd
  congr 1
  funext p
  obtain ⟨e, r⟩ := p
  cases r with
  | sh n d => rfl
  | nw n d => rfl
  | own i => exact vw_m e i
theorem st_ap : st f env = (f env).bind stR := by
  unfold st
  congr 1
  funext p
  obtain ⟨e, r⟩ := p
  cases r with
  | sh n d => rfl
  | nw n d => rfl
  | own i => exact kp_m e i
theorem f2_ap {o : G2} : f2 o va vb env = (va env).bind fun p => (vb p.1).bind fun q => (o p.2 q.2).bind fun r => .ok (q.1, r) := rfl
theorem f1_ap {o : G1} : f1 o v env = (v env).bind fun p => (o p.2).bind fun r => .ok (p.1, r) := rfl
theorem fNil_ap : fNil env = .ok (env, []) := rfl
theorem fCons_ap : fCons v a env = (v env).bind fun p => (a p.1).bind fun q => .ok (q.1, p.2 :: q.2) := rfl
theorem fTup_ap : fTup a env = (a env).bind fun p => grd (decide (p.2.length ≤ 10000)) (.ok (p.1, .sh (flags p.2) (.tuple (datas p.2)))) := rfl
theorem fLst_ap : fLst a env = (a env).bind fun p => grd (decide (p.2.length ≤ 10000)) (.ok (p.1, .nw (flags p.2) (datas p.2))) := rfl
theorem fNot_ap : fNot t env = (t env).bind fun b => .ok (!b) := rfl
theorem fAnd_ap : fAnd t u env = (t env).bind fun b => if b = true then u env else .ok false := rfl
theorem fOr_ap : fOr t u env = (t env).bind fun b => if b = true then .ok true else u env := rfl
theorem fIf_ap : fIf t fa fb env = (t env).bind fun b => if b = true then fa env else fb env := rfl
theorem fYes_ap : fYes env = .ok true := rfl
def boolR (env : Env) (r : Rs (Env × Dv)) : Rs Bool := match r with
  | .ok (_, (_, .bool b)) => .ok b
  | .ex _ x => .ex env x
  | _ => .bad
@[simp] theorem boolR_ok {e : Env} {b : Bool} : boolR env (.ok (e, (n, .bool b))) = .ok b := rfl
theorem fB_ap : fB v env = boolR env (v (lent env)) := rfl
theorem fNext_ap : fNext env = .ok (.nx env) := rfl
theorem fDrop_ap : fDrop f env = (f env).bind fun p => .ok (.nx p.1) := rfl
def seqO (h : FS) : Out → Rs Out
  | .nx e => h e
  | o => .ok o
@[simp] theorem seqO_nx : seqO h (.nx env) = h env := rfl
@[simp] theorem seqO_rt {r : R} : seqO h (.rt r) = .ok (.rt r) := rfl
@[simp] theorem seqO_bk : seqO h (.bk env) = .ok (.bk env) := rfl
@[simp] theorem seqO_ct : seqO h (.ct env) = .ok (.ct env) := rfl
theorem fSeq_ap : fSeq g h env = (g env).bind (seqO h) := by
  unfold fSeq
  refine congrArg (Rs.bind (g env)) (funext fun o => ?_)
  cases o <;> rfl
/-- a value handed back -/
def retS : Option Sl → Rs Out
  | some (.ow n ds) => .ok (.rt (.nw n ds))
  | _ => .bad
def retR (p : Env × R) : Rs Out := match p.2 with
  | .sh n d => .ok (.rt (.sh n d))
  | .nw n ds => .ok (.rt (.nw n ds))
  | .own i => retS (gt p.1 i)
@[simp] theorem retS_ow : retS (some (.ow n ds)) = .ok (.rt (.nw n ds)) := rfl
@[simp] theorem retR_sh : retR (env, .sh n d) = .ok (.rt (.sh n d)) := rfl
@[simp] theorem retR_nw : retR (env, .nw n ds) = .ok (.rt (.nw n ds)) := rfl
@[simp] theorem retR_own : retR (env, .own i) = retS (gt env i) := rfl
theorem fRet_ap : fRet f env = (f env).bind retR := by
  unfold fRet
  congr 1
  funext p
  obtain ⟨e, r⟩ := p
  cases r with
  | sh n d => rfl
  | nw n d => rfl
  | own i =>
    show (match e[i]? with
      | some (some (.ow n ds)) => (.ok (.rt (.nw n ds)) : Rs Out)
      | _ => .bad) = retS (gt e i)
    rw [← get_gt]
    cases e[i]? with
    | none => rfl
    | some s =>
      cases s with
      | none => rfl
      | some s => cases s <;> rfl
theorem fRetN_ap : fRetN env = .ok (.rt (.sh true .none)) := rfl
theorem fSet_ap : fSet i f env = (f env).bind fun p => (put i p).bind fun e => .ok (.nx e) := rfl
def putS (e : Env) (i j : Nat) : Option Sl → Rs Env
  | some s => .ok (pt (pt e j (some (.sh s.flag s.data))) i (some (.sh s.flag s.data)))
  | none => .bad
@[simp] theorem putS_some {e : Env} {j : Nat} {s : Sl} : putS e i j (some s) = .ok (pt (pt e j (some (.sh s.flag s.data))) i (some (.sh s.flag s.data))) := rfl
@[simp] theorem put_sh : put i (env, .sh n d) = .ok (pt env i (some (.sh n d))) := by rw [← pt_eq]; rfl
@[simp] theorem put_nw : put i (env, .nw n ds) = .ok (pt env i (some (.ow n ds))) := by rw [← pt_eq]; rfl
@[simp] theorem put_own {j : Nat} : put i (env, .own j) = putS env i j (gt env j) := by
  show (match env[j]? with
    | some (some s) => (.ok ((env.set j (some (.sh s.flag s.data))).set i (some (.sh s.flag s.data))) : Rs Env)
    | _ => .bad) = _
  rw [← get_gt]
  cases env[j]? with
  | none => rfl
  | some s =>
    cases s with
    | none => rfl
    | some s =>
      show (.ok ((env.set j (some (.sh s.flag s.data))).set i (some (.sh s.flag s.data))) : Rs Env) = _
      rw [pt_eq, pt_eq]; rfl
theorem gN_ap {p : Dv} : gN i p env = .ok (pt env i (some (.sh (p.1 || atom p.2) p.2))) := by rw [← pt_eq]; rfl
theorem gsN_ap : gsN n [] env = .ok env := rfl
theorem gsC_ap {x : FG} {y : FGs} : gsC x y n (d :: ds) env = (x (n, d) env).bind fun e => y n ds e := rfl
theorem gT_ap {x : FGs} {k : Nat} : gT k x (n, .tuple ds) env = grd (decide (ds.length = k)) (x n ds env) := rfl
theorem fAsg_ap {x : FG} : fAsg x v env = (v env).bind fun p => (x p.2 p.1).bind fun e => .ok (.nx e) := rfl
/-- the list of a slot, grown; with one item anew -/
def appS (e : Env) (i : Nat) (p : Dv) : Option Sl → Rs Out
  | some (.ow n ds) => grd (decide (ds.length < 1000000)) (.ok (.nx (pt e i (some (.ow (n && p.1) (ds ++ [p.2]))))))
  | _ => .bad
@[simp] theorem appS_ow {p : Dv} : appS env i p (some (.ow n ds)) = grd (decide (ds.length < 1000000)) (.ok (.nx (pt env i (some (.ow (n && p.1) (ds ++ [p.2])))))) := rfl
def isOw : Option Sl → Bool
  | some (.ow _ _) => true
  | _ => false
@[simp] theorem isOw_ow : isOw (some (.ow n ds)) = true := rfl
theorem fApp_ap : fApp i v env = grd (isOw (gt env i)) ((v env).bind fun p => appS p.1 i p.2 (gt p.1 i)) := by
  unfold fApp
  have key : ∀ (e : Env) (p : Dv), (match e[i]? with
    | some (some (.ow n ds)) => (grd (decide (ds.length < 1000000)) (.ok (Out.nx (e.set i (some (.ow (n && p.1) (ds ++ [p.2])))))) : Rs Out)
    | _ => .bad) = appS e i p (gt e i) := fun e p => by
    rw [← get_gt]
    cases e[i]? with
    | none => rfl
    | some s =>
      cases s with
      | none => rfl
      | some s =>
        cases s with
        | ow n ds =>
          show grd (decide (ds.length < 1000000)) (Rs.ok (Out.nx (e.set i (some (.ow (n && p.1) (ds ++ [p.2])))))) = _
          rw [pt_eq]; rfl
        | _ => rfl
  rw [← get_gt env i]
  cases env[i]? with
  | none => rfl
  | some s =>
    cases s with
    | none => rfl
    | some s =>
      cases s with
      | ow n ds =>
        show (v env).bind _ = (v env).bind _
        congr 1
        funext p
        exact key p.1 p.2
      | _ => rfl
def setS (e : Env) (i : Nat) (p : Dv) (k : PyData) : Option Sl → Rs Out
  | some (.ow n ds) => match k with
    | .int j => match ixN ds.length j with
      | some j => .ok (.nx (pt e i (some (.ow (n && p.1) (ds.set j p.2)))))
      | none => .bad
    | _ => .bad
  | _ => .bad
@[simp] theorem setS_ow {p : Dv} {j : Int} : setS env i p (.int j) (some (.ow n ds)) = (match ixN ds.length j with
  | some j => .ok (.nx (pt env i (some (.ow (n && p.1) (ds.set j p.2)))))
  | none => .bad) := rfl
theorem fPutIx_ap : fPutIx i va vb env = (vb env).bind fun p => grd (isOw (gt p.1 i)) ((va p.1).bind fun q => setS q.1 i p.2 q.2.2 (gt q.1 i)) := by
  unfold fPutIx
  congr 1
  funext p
  have key : ∀ (e : Env) (k : PyData), (match e[i]?, k with
    | some (some (.ow n ds)), .int k => (match ixN ds.length k with
      | some j => Rs.ok (Out.nx (e.set i (some (.ow (n && p.2.1) (ds.set j p.2.2)))))
      | none => Rs.bad)
    | _, _ => Rs.bad) = setS e i p.2 k (gt e i) := fun e k => by
    rw [← get_gt]
    cases e[i]? with
    | none => rfl
    | some s =>
      cases s with
      | none => rfl
      | some s =>
        cases s with
        | ow n ds =>
          cases k with
          | int j =>
            show (match ixN ds.length j with
              | some j => Rs.ok (Out.nx (e.set i (some (.ow (n && p.2.1) (ds.set j p.2.2)))))
              | none => Rs.bad) = (match ixN ds.length j with
              | some j => Rs.ok (Out.nx (pt e i (some (.ow (n && p.2.1) (ds.set j p.2.2)))))
              | none => Rs.bad)
            cases ixN ds.length j with
            | none => rfl
            | some j => exact congrArg (fun z => Rs.ok (Out.nx z)) (pt_eq _ _ _)
          | _ => rfl
        | _ => rfl
  rw [← get_gt p.1 i]
  cases p.1[i]? with
  | none => rfl
  | some s =>
    cases s with
    | none => rfl
    | some s =>
      cases s with
      | ow n ds =>
        show (va p.1).bind _ = (va p.1).bind _
        congr 1
        funext q
        exact key q.1 q.2.2
      | _ => rfl
theorem fIt_ap : fIt v env = (v env).bind fun p => (match p.2.2 with
  | .list ds => .ok (p.1, ds.map fun d => (p.2.1, d))
  | .tuple ds => .ok (p.1, ds.map fun d => (p.2.1, d))
  | .str x => .ok (p.1, x.cps.toList.map fun c => (true, .str ⟨#[c]⟩))
  | _ => .bad) := rfl
theorem fRg1_ap : fRg1 a env = (a env).bind fun p => (match p.2 with
  | [(_, .int j)] => grd (small j) (.ok (p.1, (List.range j.toNat).map fun (i : Nat) => (true, .int (0 + i))))
  | _ => .bad) := rfl
theorem fRg2_ap : fRg2 a env = (a env).bind fun p => (match p.2 with
  | [(_, .int i), (_, .int j)] => grd (small i && small j) (.ok (p.1, (List.range (j - i).toNat).map fun (k : Nat) => (true, .int (i + k))))
  | _ => .bad) := rfl
theorem fFor_ap {x : FG} : fFor a x g env = (a env).bind fun p => fLoop x g p.2 p.1 := rfl
theorem fIfS_ap : fIfS t g h env = (t env).bind fun b => if b = true then g env else h env := rfl
def callR (e : Env) (r : Rs R) : Rs (Env × R) := match r with
  | .ok (.sh n d) => .ok (e, .sh n d)
  | .ok (.nw n ds) => .ok (e, .nw n ds)
  | .ex _ x => .ex e x
  | _ => .bad
@[simp] theorem callR_sh : callR env (.ok (.sh n d)) = .ok (env, .sh n d) := rfl
@[simp] theorem callR_nw : callR env (.ok (.nw n ds)) = .ok (env, .nw n ds) := rfl
@[simp] theorem callR_ex {e : Env} {x : Exn} : callR env (.ex e x) = .ex env x := rfl
theorem fCall_ap {S : SF} : fCall S a env = (a env).bind fun p => callR p.1 (S (p.2.map fun d => d.2)) := rfl
theorem fLc_ap {own : List Nat} {x : FG} : fLc own a x t v env = (a env).bind fun p => grd (okOwn p.1 own) ((fLcL own x t v p.2 (wipeE p.1 own) []).bind fun q => .ok (backE p.1 q.1 own, .nw (flags q.2) (datas q.2))) := rfl
theorem fB1_ap {o : GN} : fB1 o a env = (a env).bind fun p => (o p.2).bind fun r => .ok (p.1, r) := rfl
theorem g1_ap {o : Dv → Rs R} {p : Dv} : g1 o [p] = o p := rfl
theorem fIsi_ap {T : String} : fIsi T v env = (v env).bind fun q => (match isT T q.2.2 with
  | some b => .ok (q.1, .sh true (.bool b))
  | none => .bad) := rfl
theorem fFmt_ap : fFmt v env = (v env).bind fun q => (match q.2.2 with
  | .str y => grd (decide (y.length ≤ 1000000)) (.ok (q.1, (true, .str y)))
  | .int i => grd (decide (i.natAbs < 2 ^ 60)) (.ok (q.1, (true, .str (Str.ofString (toString i)))))
  | _ => .bad) := rfl
theorem fJoined_ap {fs : List FV} : fJoined fs env = (fJs fs Str.empty env).bind fun q => .ok (q.1, .sh true (.str q.2)) := rfl
@[simp] theorem fJs_nil {acc : Str} : fJs [] acc env = .ok (env, acc) := rfl
@[simp] theorem fJs_cons {acc : Str} {fs : List FV} : fJs (v :: fs) acc env = (v env).bind fun q => (match q.2.2 with
  | .str y => grd (decide ((acc ++ y).length ≤ 1000000)) (fJs fs (acc ++ y) q.1)
  | _ => .bad) := rfl
theorem fJoin_ap : fJoin va vb env = (va env).bind fun q => (match q.2.2 with
  | .str a => (vb q.1).bind fun r => match gJoin a r.2.2 with
    | some z => .ok (r.1, .sh true (.str z))
    | none => .bad
  | _ => .bad) := rfl
theorem fNo_ap : fNo env = .ok (env, none) := rfl
theorem fPart_ap : fPart v env = (v env).bind fun q => (match q.2.2 with
  | .int i => .ok (q.1, some i)
  | _ => .bad) := rfl
theorem fSl_ap {fl fh : FO} : fSl v fl fh env = (v env).bind fun q => (fl q.1).bind fun l => (fh l.1).bind fun h => (gSl q.2 l.2 h.2).bind fun r => .ok (h.1, r) := rfl
theorem fFg_ap {is : List Nat} : fFg is g env = (g env).bind fun o => .ok (fgO is o) := rfl
@[simp] theorem fgO_nx {is : List Nat} : fgO is (.nx env) = .nx (wipeE env is) := rfl
@[simp] theorem fgO_bk {is : List Nat} : fgO is (.bk env) = .bk (wipeE env is) := rfl
@[simp] theorem fgO_ct {is : List Nat} : fgO is (.ct env) = .ct (wipeE env is) := rfl
@[simp] theorem fgO_rt {is : List Nat} {r : R} : fgO is (.rt r) = .rt r := rfl
@[simp] theorem wipeE_nil : wipeE env [] = env := rfl
@[simp] theorem wipeE_cons {is : List Nat} : wipeE env (i :: is) = pt (wipeE env is) i none := pt_eq _ _ _
@[simp] theorem backE_nil {e1 : Env} : backE e1 env [] = env := rfl
@[simp] theorem backE_cons {e1 : Env} {is : List Nat} : backE e1 env (i :: is) = pt (backE e1 env is) i (gt e1 i) := by rw [← pt_eq, ← gt_eq]; rfl
@[simp] theorem okOwn_nil : okOwn env [] = true := rfl
def okS : Option Sl → Bool
  | some (.sh _ _) => true
  | none => true
  | _ => false
@[simp] theorem okS_sh : okS (some (.sh n d)) = true := rfl
@[simp] theorem okS_none : okS none = true := rfl
@[simp] theorem okOwn_cons {is : List Nat} : okOwn env (i :: is) = (okS (gt env i) && okOwn env is) := by
  rw [← gt_eq]
  show ((match env.getD i none with
    | some (.sh _ _) => true
    | none => true
    | _ => false) && okOwn env is) = _
  cases env.getD i none with
  | none => rfl
  | some s => cases s <;> rfl
@[simp] theorem lent_nil : lent [] = [] := rfl
@[simp] theorem lent_none : lent (none :: env) = none :: lent env := rfl
@[simp] theorem lent_some {s : Sl} : lent (some s :: env) = some (.sh s.flag s.data) :: lent env := rfl
@[simp] theorem flag_sh : (Sl.sh n d).flag = n := rfl
@[simp] theorem flag_ow : (Sl.ow n ds).flag = n := rfl
@[simp] theorem flag_rg : (Sl.rg d).flag = true := rfl
@[simp] theorem flag_rl {ds : List PyData} : (Sl.rl ds).flag = true := rfl
@[simp] theorem data_rl {ds : List PyData} : (Sl.rl ds).data = .list ds := rfl
@[simp] theorem data_sh : (Sl.sh n d).data = d := rfl
@[simp] theorem data_ow : (Sl.ow n ds).data = .list ds := rfl
@[simp] theorem data_rg : (Sl.rg d).data = d := rfl
@[simp] theorem flags_nil : flags [] = true := rfl
@[simp] theorem flags_cons {p : Dv} {ps : List Dv} : flags (p :: ps) = (p.1 && flags ps) := rfl
@[simp] theorem datas_nil : datas [] = [] := rfl
@[simp] theorem datas_cons {p : Dv} {ps : List Dv} : datas (p :: ps) = p.2 :: datas ps := rfl
@[simp] theorem atom_none : atom .none = true := rfl
@[simp] theorem atom_int {i : Int} : atom (.int i) = true := rfl
@[simp] theorem atom_bool {b : Bool} : atom (.bool b) = true := rfl
@[simp] theorem atom_str {x : Str} : atom (.str x) = true := rfl
@[simp] theorem atom_list : atom (.list ds) = false := rfl
@[simp] theorem atom_tuple : atom (.tuple ds) = false := rfl
@[simp] theorem sc_ap : sc d = .ok (.sh true d) := rfl
theorem gI_ap {c : Int → Int → Bool} {k : Int → Int → PyData} {m : Bool} {x y : Int} : gI c k (n, .int x) (m, .int y) = grd (c x y) (.ok (.sh true (k x y))) := rfl
theorem gMul_ap {m : Bool} {x y : Int} : gMul (n, .int x) (m, .int y) = grd (cMul x y) (.ok (.sh true (.int (x * y)))) := rfl
@[simp] theorem gAdd_int {m : Bool} {x y : Int} : gAdd (n, .int x) (m, .int y) = .ok (.sh true (.int (x + y))) := rfl
@[simp] theorem gAdd_str {m : Bool} {x y : Str} : gAdd (n, .str x) (m, .str y) = grd (decide (x.length + y.length ≤ 1000000)) (.ok (.sh true (.str (x ++ y)))) := rfl
@[simp] theorem gAdd_list {m : Bool} {x y : List PyData} : gAdd (n, .list x) (m, .list y) = grd (decide (x.length + y.length ≤ 1000000)) (.ok (.nw (n && m) (x ++ y))) := rfl
@[simp] theorem gAdd_tuple {m : Bool} {x y : List PyData} : gAdd (n, .tuple x) (m, .tuple y) = grd (decide (x.length + y.length ≤ 1000000)) (.ok (.sh (n && m) (.tuple (x ++ y)))) := rfl
@[simp] theorem gIx_list {m : Bool} {i : Int} : gIx (n, .list ds) (m, .int i) = (match atI ds i with
    | some d => .ok (.sh (n || atom d) d)
    | none => .bad) := rfl
@[simp] theorem gIx_tuple {m : Bool} {i : Int} : gIx (n, .tuple ds) (m, .int i) = (match atI ds i with
    | some d => .ok (.sh (n || atom d) d)
    | none => .bad) := rfl
@[simp] theorem gIx_str {m : Bool} {i : Int} {x : Str} : gIx (n, .str x) (m, .int i) = (match atI x.cps.toList i with
    | some c => grd (decide (x.length ≤ 1000000)) (.ok (.sh true (.str ⟨#[c]⟩)))
    | none => .bad) := rfl
theorem gEqN_ap {neg : Bool} {p q : Dv} : gEqN neg p q = (match eqB p.2 q.2 with
  | some b => .ok (.sh true (.bool (if neg = true then !b else b)))
  | none => .bad) := rfl
@[simp] theorem eqB_int {a b : Int} : eqB (.int a) (.int b) = some (decide (a = b)) := rfl
@[simp] theorem eqB_str {a b : Str} : eqB (.str a) (.str b) = some (decide (a = b)) := rfl
@[simp] theorem eqB_bool {a b : Bool} : eqB (.bool a) (.bool b) = some (decide (a = b)) := rfl
@[simp] theorem eqB_nn : eqB .none .none = some true := rfl
@[simp] theorem eqB_ni {a : Int} : eqB .none (.int a) = some false := rfl
@[simp] theorem eqB_in {a : Int} : eqB (.int a) .none = some false := rfl
theorem gIsN_ap {neg m : Bool} : gIsN neg (n, d) (m, .none) = .ok (.sh true (.bool (if neg = true then !isNon d else isNon d))) := rfl
@[simp] theorem isNon_none : isNon .none = true := rfl
@[simp] theorem isNon_int {x : Int} : isNon (.int x) = false := rfl
@[simp] theorem isNon_list : isNon (.list ds) = false := rfl
@[simp] theorem isNon_tuple : isNon (.tuple ds) = false := rfl
@[simp] theorem isNon_str {x : Str} : isNon (.str x) = false := rfl
@[simp] theorem isNon_bool {x : Bool} : isNon (.bool x) = false := rfl
@[simp] theorem bLen_list : bLen (n, .list ds) = .ok (.sh true (.int ds.length)) := rfl
@[simp] theorem bLen_tuple : bLen (n, .tuple ds) = .ok (.sh true (.int ds.length)) := rfl
@[simp] theorem bLen_str {x : Str} : bLen (n, .str x) = grd (decide (x.length ≤ 1000000)) (.ok (.sh true (.int x.length))) := rfl
@[simp] theorem bInt_int {x : Int} : bInt (n, .int x) = .ok (.sh true (.int x)) := rfl
@[simp] theorem bInt_bool {x : Bool} : bInt (n, .bool x) = .ok (.sh true (.int (if x = true then 1 else 0))) := rfl
@[simp] theorem bStr_int {x : Int} : bStr (n, .int x) = grd (decide (x.natAbs < 2 ^ 60)) (.ok (.sh true (.str (Str.ofString (toString x))))) := rfl
@[simp] theorem bRepr_list : bRepr (n, .list ds) = grd (reprOk (.list ds)) (.ok (.sh true (.str (PyData.shown (.list ds))))) := rfl
@[simp] theorem bRepr_tuple : bRepr (n, .tuple ds) = grd (reprOk (.tuple ds)) (.ok (.sh true (.str (PyData.shown (.tuple ds))))) := rfl
@[simp] theorem isT_str_str {x : Str} : isT "str" (.str x) = some true := by show kitB "str" "str" = some true; decide +kernel
@[simp] theorem isT_list_list : isT "list" (.list ds) = some true := by show kitB "list" "list" = some true; decide +kernel
@[simp] theorem isT_tuple_tuple : isT "tuple" (.tuple ds) = some true := by show kitB "tuple" "tuple" = some true; decide +kernel
@[simp] theorem isT_bool_bool {b : Bool} : isT "bool" (.bool b) = some true := by show kitB "bool" "bool" = some true; decide +kernel
@[simp] theorem isT_int_int {b : Int} : isT "int" (.int b) = some true := by show kitB "int" "int" = some true; decide +kernel
@[simp] theorem isT_int_bool {b : Bool} : isT "int" (.bool b) = some true := by show kitB "bool" "int" = some true; decide +kernel
@[simp] theorem isT_int_str {b : Str} : isT "int" (.str b) = some false := by show kitB "str" "int" = some false; decide +kernel
@[simp] theorem isT_int_none : isT "int" .none = some false := by show kitB "NoneType" "int" = some false; decide +kernel
@[simp] theorem isT_bool_int {b : Int} : isT "bool" (.int b) = some false := by show kitB "int" "bool" = some false; decide +kernel
@[simp] theorem isT_bool_str {b : Str} : isT "bool" (.str b) = some false := by show kitB "str" "bool" = some false; decide +kernel
@[simp] theorem isT_bool_none : isT "bool" .none = some false := by show kitB "NoneType" "bool" = some false; decide +kernel
@[simp] theorem cPos_ap {a b : Int} : cPos a b = decide (0 < b) := rfl
end
section
variable {g : FG} {body : FS}
@[simp] theorem fLoop_nil {e : Env} : fLoop g body [] e = .ok (.nx e) := rfl
theorem fLoop_cons {e : Env} {x : Dv} {xs : List Dv} : fLoop g body (x :: xs) e = (g x e).bind fun e1 => (body e1).bind fun o => (match o with
    | .nx e2 => fLoop g body xs e2
    | .ct e2 => fLoop g body xs e2
    | .bk e2 => .ok (.nx e2)
    | .rt r => .ok (.rt r)) := rfl
/-- a loop whose turns carry a state: E says how the slots hold it -/
theorem fLoop_fold {α : Type} (E : α → Env) (step : α → Dv → α) (I : α → Prop) : ∀ (xs : List Dv) (a : α), I a → (∀ a x, I a → x ∈ xs → ((g x (E a)).bind body = .ok (.nx (E (step a x))) ∧ I (step a x))) →
    fLoop g body xs (E a) = .ok (.nx (E (xs.foldl step a))) ∧ I (xs.foldl step a)
  | [], a, ha, _ => ⟨rfl, ha⟩
  | x :: xs, a, ha, h => by
    obtain ⟨h1, h2⟩ := h a x ha List.mem_cons_self
    have ih := fLoop_fold E step I xs (step a x) h2 fun b y hb hy => h b y hb (List.mem_cons_of_mem _ hy)
    refine ⟨?_, ih.2⟩
    rw [fLoop_cons, List.foldl_cons, ← ih.1]
    cases q : g x (E a) with
    | bad => rw [q] at h1; cases h1
    | ex e y => rw [q] at h1; cases h1
    | ok e1 =>
      rw [q] at h1
      have h1 : body e1 = .ok (.nx (E (step a x))) := h1
      show (body e1).bind _ = _
      rw [h1]; rfl
/-- by the turn's number -/
theorem fLoop_at (E : Nat → Env) (xs : List Dv) (h : ∀ i x, xs[i]? = some x → (g x (E i)).bind body = .ok (.nx (E (i + 1)))) : fLoop g body xs (E 0) = .ok (.nx (E xs.length)) := by
  have key : ∀ (ys : List Dv) (k : Nat), xs.drop k = ys → fLoop g body ys (E k) = .ok (.nx (E (k + ys.length))) := by
    intro ys
    induction ys with
    | nil => intro k _; rfl
    | cons y ys ih =>
      intro k hk
      have hx : xs[k]? = some y := by
        have := congrArg (fun l => l[0]?) hk
        simpa [List.getElem?_drop] using this
      have h1 := h k y hx
      have hd : xs.drop (k + 1) = ys := by
        have := congrArg (List.drop 1) hk
        simpa [List.drop_drop, Nat.add_comm] using this
      have h2 := ih (k + 1) hd
      rw [fLoop_cons]
      cases q : g y (E k) with
      | bad => rw [q] at h1; cases h1
      | ex e z => rw [q] at h1; cases h1
      | ok e1 =>
        rw [q] at h1
        have h1 : body e1 = .ok (.nx (E (k + 1))) := h1
        show (body e1).bind _ = _
        rw [h1]
        show fLoop g body ys (E (k + 1)) = _
        rw [h2, List.length_cons]
        congr 3; omega
  simpa using key xs 0 rfl
end
section
variable {own : List Nat} {g : FG} {t : FT} {el : FV}
@[simp] theorem fLcL_nil {e : Env} {acc : List Dv} : fLcL own g t el [] e acc = .ok (e, acc) := rfl
/-- a comprehension: each item kept by p gives f of it -/
theorem fLcL_filter (e : Env) (p : Dv → Bool) (f : Dv → Dv) : ∀ (xs acc : List Dv), acc.length + xs.length ≤ 1000000 →
    (∀ x ∈ xs, ∃ e1, g x e = .ok e1 ∧ t e1 = .ok (p x) ∧ (p x = true → ∃ e2, el e1 = .ok (e2, f x) ∧ wipeE e2 own = e) ∧ (p x = false → wipeE e1 own = e)) →
    fLcL own g t el xs e acc = .ok (e, acc ++ (xs.filter p).map f)
  | [], acc, _, _ => by simp
  | x :: xs, acc, hz, h => by
    obtain ⟨e1, h1, h2, h3, h4⟩ := h x List.mem_cons_self
    rw [List.length_cons] at hz
    show (noex (g x e)).bind _ = _
    rw [h1]
    show (noex (t e1)).bind _ = _
    rw [h2]
    cases q : p x with
    | true =>
      obtain ⟨e2, h5, h6⟩ := h3 q
      show (noex (el e1)).bind _ = _
      rw [h5]
      show grd (decide (acc.length < 1000000)) (fLcL own g t el xs (wipeE e2 own) (acc ++ [f x])) = _
      rw [h6, fLcL_filter e p f xs (acc ++ [f x]) (by simp; omega) fun y hy => h y (List.mem_cons_of_mem _ hy), decide_eq_true (by omega), List.filter_cons_of_pos q]
      simp
    | false =>
      show fLcL own g t el xs (wipeE e1 own) acc = _
      rw [h4 q, fLcL_filter e p f xs acc (by omega) fun y hy => h y (List.mem_cons_of_mem _ hy), List.filter_cons_of_neg (by rw [q]; decide)]
theorem fLcL_map (e : Env) (f : Dv → Dv) (xs : List Dv) (hz : xs.length ≤ 1000000) (h : ∀ x ∈ xs, ∃ e1, g x e = .ok e1 ∧ ∃ e2, el e1 = .ok (e2, f x) ∧ wipeE e2 own = e) :
    fLcL own g fYes el xs e [] = .ok (e, xs.map f) := by
  have := fLcL_filter (own := own) (g := g) (t := fYes) (el := el) e (fun _ => true) f xs [] (by simpa using hz) fun x hx => by
    obtain ⟨e1, h1, e2, h2, h3⟩ := h x hx
    exact ⟨e1, h1, rfl, fun _ => ⟨e2, h2, h3⟩, fun z => nomatch z⟩
  rw [List.filter_eq_self.mpr (fun _ _ => rfl), List.nil_append] at this
  exact this
end
end Dn
namespace Dn
open PySem PySem.Spec L2
/-- by a whole number -/
def iat {α : Type} [Inhabited α] (xs : List α) (i : Int) : α := xs.getD i.toNat default
def ist {α : Type} (xs : List α) (i : Int) (x : α) : List α := xs.set i.toNat x
theorem iat_get {α : Type} [Inhabited α] {xs : List α} {i : Int} (h : 0 ≤ i ∧ i < xs.length) : xs[i.toNat]? = some (iat xs i) := by
  have hk : i.toNat < xs.length := by omega
  unfold iat
  rw [List.getD_eq_getElem?_getD, List.getElem?_eq_getElem hk]; rfl
theorem iat_nat {α : Type} [Inhabited α] {xs : List α} {k : Nat} {x : α} (h : xs[k]? = some x) : iat xs (k : Int) = x := by
  unfold iat
  rw [List.getD_eq_getElem?_getD, Int.toNat_natCast, h]; rfl
theorem iat_mem {α : Type} [Inhabited α] {xs : List α} {i : Int} (h : 0 ≤ i ∧ i < xs.length) : iat xs i ∈ xs := List.mem_of_getElem? (iat_get h)
@[simp] theorem ist_length {α : Type} {xs : List α} {i : Int} {x : α} : (ist xs i x).length = xs.length := List.length_set
theorem ist_mem {α : Type} {xs : List α} {i : Int} {x y : α} (h : y ∈ ist xs i x) : y ∈ xs ∨ y = x := List.mem_or_eq_of_mem_set h
/-- what is walked, all of one kind -/
def wk (n : Bool) (ds : List PyData) : List Dv := ds.map fun d => (n, d)
def fmK {β : Type} (d : PyData) (k : Str → Rs β) : Rs β := match d with
  | .str y => grd (decide (y.length ≤ 1000000)) (k y)
  | .int i => grd (decide (i.natAbs < 2 ^ 60)) (k (Str.ofString (toString i)))
  | _ => .bad
def oK {β : Type} (o : Option Str) (k : Str → Rs β) : Rs β := match o with
  | some y => k y
  | none => .bad
def isK {β : Type} (o : Option Bool) (k : Bool → Rs β) : Rs β := match o with
  | some b => k b
  | none => .bad
@[simp ↓] theorem isK_s {β : Type} {b : Bool} {k : Bool → Rs β} : isK (some b) k = k b := id rfl
@[simp ↓] theorem isK_ii {β : Type} {i : Int} {k : Bool → Rs β} : isK (isT "int" (.int i)) k = k true := by rw [isT_int_int]; rfl
@[simp ↓] theorem isK_bi {β : Type} {i : Int} {k : Bool → Rs β} : isK (isT "bool" (.int i)) k = k false := by rw [isT_bool_int]; rfl
@[simp ↓] theorem isK_ss {β : Type} {i : Str} {k : Bool → Rs β} : isK (isT "str" (.str i)) k = k true := by rw [isT_str_str]; rfl
@[simp ↓] theorem isK_ll {β : Type} {i : List PyData} {k : Bool → Rs β} : isK (isT "list" (.list i)) k = k true := by rw [isT_list_list]; rfl
@[simp ↓] theorem isK_tt {β : Type} {i : List PyData} {k : Bool → Rs β} : isK (isT "tuple" (.tuple i)) k = k true := by rw [isT_tuple_tuple]; rfl
theorem map_snoc {α : Type} {c : α → PyData} {xs : List α} {x : α} : xs.map c ++ [c x] = (xs ++ [x]).map c := by rw [List.map_append]; rfl
theorem map_set {α : Type} {c : α → PyData} {xs : List α} {i : Nat} {x : α} : (xs.map c).set i (c x) = (xs.set i x).map c := by rw [List.map_set]
theorem ixN_in {n : Nat} {j : Int} (z : 0 ≤ j ∧ j < n) : ixN n j = some j.toNat := by unfold ixN; rw [if_pos z.1, if_pos z.2]
section
variable {β : Type}
abbrev HX (β : Type) := Env → Exn → Rs β
def on {α : Type} (r : Rs α) (h : HX β) (k : α → Rs β) : Rs β := match r with
  | .bad => .bad
  | .ok a => k a
  | .ex e x => h e x
def cE (f : FE) (env : Env) (h : HX β) (k : Env → R → Rs β) : Rs β := on (f env) h fun p => k p.1 p.2
def cV (f : FV) (env : Env) (h : HX β) (k : Env → Bool → PyData → Rs β) : Rs β := on (f env) h fun p => k p.1 p.2.1 p.2.2
def cT (f : FT) (env : Env) (h : HX β) (k : Bool → Rs β) : Rs β := on (f env) h k
def cA (f : FA) (env : Env) (h : HX β) (k : Env → List Dv → Rs β) : Rs β := on (f env) h fun p => k p.1 p.2
def cO (f : FS) (env : Env) (h : HX β) (k : Out → Rs β) : Rs β := on (f env) h k
def cR (r : Rs R) (h : HX β) (k : R → Rs β) : Rs β := on r h k
def cG (g : FG) (n : Bool) (d : PyData) (env : Env) (h : HX β) (k : Env → Rs β) : Rs β := on (g (n, d) env) h k
def cGs (g : FGs) (n : Bool) (ds : List PyData) (env : Env) (h : HX β) (k : Env → Rs β) : Rs β := on (g n ds env) h k
def cP (i : Nat) (env : Env) (s : Option Sl) (k : Env → Rs β) : Rs β := k (env.set i s)
def cC (r : Rs R) (e : Env) (h : HX β) (k : Env → R → Rs β) : Rs β := on (callR e r) h fun p => k p.1 p.2
def cL (g : FG) (body : FS) (xs : List Dv) (e : Env) (h : HX β) (k : Out → Rs β) : Rs β := on (fLoop g body xs e) h k
def cW (is : List Nat) (e : Env) (k : Env → Rs β) : Rs β := k (wipeE e is)
def cLc (own : List Nat) (g : FG) (t : FT) (el : FV) (xs : List Dv) (e : Env) (h : HX β) (k : Env → R → Rs β) : Rs β := grd (okOwn e own) (on (fLcL own g t el xs (wipeE e own) []) h fun q => k (backE e q.1 own) (.nw (flags q.2) (datas q.2)))
def ifK (b : Bool) (x y : Rs β) : Rs β := if b = true then x else y
def cBo (d : PyData) (k : Bool → Rs β) : Rs β := match d with
  | .bool b => k b
  | _ => .bad
theorem on_bind {α γ : Type} (r : Rs α) (q : α → Rs γ) (h : HX β) (k : γ → Rs β) : on (r.bind q) h k = on r h fun a => on (q a) h k := by cases r <;> rfl
theorem on_ok {α : Type} (r : Rs α) : on r (fun e x => .ex e x) (fun a => .ok a) = r := by cases r <;> rfl
theorem on_grd {α : Type} (b : Bool) (r : Rs α) (h : HX β) (k : α → Rs β) : on (grd b r) h k = grd b (on r h k) := by
  cases b <;> rfl
theorem on_if {α : Type} (b : Bool) (x y : Rs α) (h : HX β) (k : α → Rs β) : on (if b = true then x else y) h k = ifK b (on x h k) (on y h k) := by
  cases b <;> rfl
@[simp ↓] theorem ifK_t {x y : Rs β} : ifK true x y = x := id rfl
@[simp ↓] theorem ifK_f {x y : Rs β} : ifK false x y = y := id rfl
@[simp ↓] theorem ifK_n {b : Bool} {x y : Rs β} : ifK (!b) x y = ifK b y x := by cases b <;> rfl
@[simp ↓] theorem ifK_p {p : Prop} [Decidable p] {x y : Rs β} (h : p) : ifK (decide p) x y = x := by rw [decide_eq_true h]; rfl
@[simp ↓] theorem ifK_m {p : Prop} [Decidable p] {x y : Rs β} (h : ¬ p) : ifK (decide p) x y = y := by rw [decide_eq_false h]; rfl
@[simp ↓] theorem grd_t {r : Rs β} : grd true r = r := id rfl
@[simp ↓] theorem grd_p {p : Prop} [Decidable p] {r : Rs β} (h : p) : grd (decide p) r = r := by rw [decide_eq_true h]; rfl
@[simp ↓ high] theorem grd_lm {α : Type} {c : α → PyData} {xs : List α} {j : Nat} {r : Rs β} : grd (decide ((xs.map c).length < j)) r = grd (decide (xs.length < j)) r := by rw [List.length_map]
@[simp ↓] theorem grd_a {a b : Bool} {r : Rs β} : grd (a && b) r = grd a (grd b r) := by cases a <;> rfl
@[simp ↓] theorem cBo_b {b : Bool} {k : Bool → Rs β} : cBo (.bool b) k = k b := id rfl
end
section
variable {β : Type} {h : HX β} {env e : Env} {n m : Bool} {d : PyData} {ds : List PyData} {f fa fb : FE} {v va vb : FV} {t u : FT} {a : FA} {p q : FS}
theorem turn_eq {g : FG} {body : FS} : (g (n, d) env).bind body = cG g n d env (fun e x => .ex e x) fun e1 => cO body e1 (fun e x => .ex e x) fun o => .ok o := by
  unfold cG cO
  cases g (n, d) env with
  | bad => rfl
  | ok e1 => exact (on_ok _).symm
  | ex e x => rfl
theorem body_eq {body : FS} : body env = cO body env (fun e x => .ex e x) fun o => .ok o := (on_ok _).symm
theorem val_eq {f : FV} : f env = cV f env (fun e x => .ex e x) fun e n d => .ok (e, (n, d)) := by
  unfold cV on
  cases f env <;> rfl
theorem test_eq {f : FT} : f env = cT f env (fun e x => .ex e x) fun b => .ok b := (on_ok _).symm
theorem tgt_eq {g : FG} : g (n, d) env = cG g n d env (fun e x => .ex e x) fun e1 => .ok e1 := (on_ok _).symm
def finO : Out → Rs R
  | .rt (.sh n d) => .ok (.sh n d)
  | .rt (.nw n ds) => .ok (.nw n ds)
  | .nx _ => .ok (.sh true .none)
  | _ => .bad
@[simp ↓] theorem finO_sh : finO (.rt (.sh n d)) = .ok (.sh n d) := id rfl
@[simp ↓] theorem finO_nw : finO (.rt (.nw n ds)) = .ok (.nw n ds) := id rfl
@[simp ↓] theorem finO_nx : finO (.nx e) = .ok (.sh true .none) := id rfl
theorem run_eq {N np : Nat} {body : FS} {E : Env} (hl : ds.length = np) (he : envOf N np ds = E) : runF N np body ds = cO body E (fun e x => .ex e x) finO := by
  unfold runF cO
  rw [hl, he, decide_eq_true rfl]
  show (body E).bind _ = _
  cases body E with
  | bad => rfl
  | ex e x => rfl
  | ok o =>
    show _ = finO o
    cases o with
    | rt r => cases r <;> rfl
    | nx e => rfl
    | bk e => rfl
    | ct e => rfl
@[simp ↓] theorem cE_c {k : Env → R → Rs β} : cE (fC d) env h k = k env (.sh true d) := id rfl
@[simp ↓] theorem cV_rc {k : Env → Bool → PyData → Rs β} : cV (rd (fC d)) env h k = k env true d := id rfl
@[simp ↓] theorem cV_sc {k : Env → Bool → PyData → Rs β} : cV (st (fC d)) env h k = k env true d := id rfl
def rdK (e : Env) (r : R) (h : HX β) (k : Env → Bool → PyData → Rs β) : Rs β := on (rdR (e, r)) h fun p => k p.1 p.2.1 p.2.2
def stK (e : Env) (r : R) (h : HX β) (k : Env → Bool → PyData → Rs β) : Rs β := on (stR (e, r)) h fun p => k p.1 p.2.1 p.2.2
@[simp ↓] theorem rdK_sh {k : Env → Bool → PyData → Rs β} : rdK e (.sh n d) h k = k e n d := id rfl
@[simp ↓] theorem rdK_nw {k : Env → Bool → PyData → Rs β} : rdK e (.nw n ds) h k = k e n (.list ds) := id rfl
@[simp ↓] theorem stK_sh {k : Env → Bool → PyData → Rs β} : stK e (.sh n d) h k = k e n d := id rfl
@[simp ↓] theorem stK_nw {k : Env → Bool → PyData → Rs β} : stK e (.nw n ds) h k = k e n (.list ds) := id rfl
@[simp ↓ low] theorem cV_rd {k : Env → Bool → PyData → Rs β} : cV (rd f) env h k = cE f env h fun e r => rdK e r h k := by
  unfold cV cE rdK; rw [rd_ap, on_bind]
@[simp ↓ low] theorem cV_st {k : Env → Bool → PyData → Rs β} : cV (st f) env h k = cE f env h fun e r => stK e r h k := by
  unfold cV cE stK; rw [st_ap, on_bind]
@[simp ↓] theorem cE_2 {o : G2} {k : Env → R → Rs β} : cE (f2 o va vb) env h k = cV va env h fun e n d => cV vb e h fun e m d' => cR (o (n, d) (m, d')) h fun r => k e r := by
  unfold cE cV cR
  rw [f2_ap, on_bind]
  refine congrArg _ (funext fun p => ?_)
  rw [on_bind]
  refine congrArg _ (funext fun q => ?_)
  rw [on_bind]; rfl
@[simp ↓] theorem cE_1 {o : G1} {k : Env → R → Rs β} : cE (f1 o va) env h k = cV va env h fun e n d => cR (o (n, d)) h fun r => k e r := by
  unfold cE cV cR
  rw [f1_ap, on_bind]
  refine congrArg _ (funext fun p => ?_)
  rw [on_bind]; rfl
@[simp ↓] theorem cE_b {o : GN} {k : Env → R → Rs β} : cE (fB1 o a) env h k = cA a env h fun e ps => cR (o ps) h fun r => k e r := by
  unfold cE cA cR
  rw [fB1_ap, on_bind]
  refine congrArg _ (funext fun p => ?_)
  rw [on_bind]; rfl
@[simp ↓] theorem cR_g1 {o : G1} {x : Dv} {k : R → Rs β} : cR (g1 o [x]) h k = cR (o x) h k := id rfl
@[simp ↓] theorem cA_nil {k : Env → List Dv → Rs β} : cA fNil env h k = k env [] := id rfl
@[simp ↓] theorem cA_cons {k : Env → List Dv → Rs β} : cA (fCons v a) env h k = cV v env h fun e n d => cA a e h fun e ps => k e ((n, d) :: ps) := by
  unfold cA cV
  rw [fCons_ap, on_bind]
  refine congrArg _ (funext fun p => ?_)
  rw [on_bind]; rfl
def cTu : List Dv → Nat → (Bool → List PyData → Rs β) → Rs β
  | [], j, k => grd (decide (j ≤ 10000)) (k true [])
  | (n, d) :: ps, j, k => cTu ps (j + 1) fun m ds => k (n && m) (d :: ds)
@[simp ↓] theorem cTu_n {j : Nat} {k : Bool → List PyData → Rs β} : cTu [] j k = grd (decide (j ≤ 10000)) (k true []) := id rfl
@[simp ↓] theorem cTu_c {j : Nat} {ps : List Dv} {k : Bool → List PyData → Rs β} : cTu ((n, d) :: ps) j k = cTu ps (j + 1) fun m ds => k (n && m) (d :: ds) := id rfl
theorem cTu_eq : ∀ (ps : List Dv) (j : Nat) (k : Bool → List PyData → Rs β), cTu ps j k = grd (decide (j + ps.length ≤ 10000)) (k (flags ps) (datas ps))
  | [], j, k => rfl
  | (n, d) :: ps, j, k => by
    show cTu ps (j + 1) (fun m ds => k (n && m) (d :: ds)) = _
    rw [cTu_eq ps (j + 1), List.length_cons, show j + 1 + ps.length = j + (ps.length + 1) by omega]; rfl
@[simp ↓] theorem cE_tup {k : Env → R → Rs β} : cE (fTup a) env h k = cA a env h fun e ps => cTu ps 0 fun m ds => k e (.sh m (.tuple ds)) := by
  unfold cE cA
  rw [fTup_ap, on_bind]
  refine congrArg _ (funext fun p => ?_)
  rw [on_grd]
  dsimp only
  rw [cTu_eq, Nat.zero_add]; rfl
@[simp ↓] theorem cE_lst {k : Env → R → Rs β} : cE (fLst a) env h k = cA a env h fun e ps => cTu ps 0 fun m ds => k e (.nw m ds) := by
  unfold cE cA
  rw [fLst_ap, on_bind]
  refine congrArg _ (funext fun p => ?_)
  rw [on_grd]
  dsimp only
  rw [cTu_eq, Nat.zero_add]; rfl
@[simp ↓] theorem cE_if {k : Env → R → Rs β} : cE (fIf t fa fb) env h k = cT t env h fun b => ifK b (cE fa env h k) (cE fb env h k) := by
  unfold cE cT
  rw [fIf_ap, on_bind]
  refine congrArg _ (funext fun b => ?_)
  rw [on_if]
def cD {γ : Type} : List Dv → (List PyData → Rs γ) → Rs γ
  | [], k => k []
  | (_, d) :: ps, k => cD ps fun ds => k (d :: ds)
@[simp ↓] theorem cD_n {k : List PyData → Rs β} : cD [] k = k [] := id rfl
@[simp ↓] theorem cD_c {ps : List Dv} {k : List PyData → Rs β} : cD ((n, d) :: ps) k = cD ps fun ds => k (d :: ds) := id rfl
theorem cD_eq : ∀ (ps : List Dv) (k : List PyData → Rs β), cD ps k = k (ps.map (·.2))
  | [], k => rfl
  | (n, d) :: ps, k => by
    show cD ps (fun ds => k (d :: ds)) = _
    rw [cD_eq ps]; rfl
theorem cCs {r : Rs R} {k : Env → R → Rs β} (z : r = .ok (.sh n d)) : cC r e h k = k e (.sh n d) := by rw [z]; rfl
theorem cCn {r : Rs R} {k : Env → R → Rs β} (z : r = .ok (.nw n ds)) : cC r e h k = k e (.nw n ds) := by rw [z]; rfl
theorem cCx {r : Rs R} {k : Env → R → Rs β} {e1 : Env} {x : Exn} (z : r = .ex e1 x) : cC r e h k = h e x := by rw [z]; rfl
@[simp ↓] theorem cE_call {S : SF} {k : Env → R → Rs β} : cE (fCall S a) env h k = cA a env h fun e ps => cD ps fun ds => cC (S ds) e h k := by
  unfold cE cA
  rw [fCall_ap, on_bind]
  refine congrArg _ (funext fun p => ?_)
  dsimp only
  rw [cD_eq]; rfl
@[simp ↓] theorem cC_sh {k : Env → R → Rs β} : cC (.ok (.sh n d)) e h k = k e (.sh n d) := id rfl
@[simp ↓] theorem cC_nw {k : Env → R → Rs β} : cC (.ok (.nw n ds)) e h k = k e (.nw n ds) := id rfl
@[simp ↓] theorem cC_ex {e1 : Env} {x : Exn} {k : Env → R → Rs β} : cC (.ex e1 x) e h k = h e x := id rfl
@[simp ↓] theorem cE_isi {T : String} {k : Env → R → Rs β} : cE (fIsi T v) env h k = cV v env h fun e n d => isK (isT T d) fun b => k e (.sh true (.bool b)) := by
  unfold cE cV
  rw [fIsi_ap, on_bind]
  refine congrArg _ (funext fun p => ?_)
  show _ = isK (isT T p.2.2) fun b => k p.1 (.sh true (.bool b))
  cases isT T p.2.2 <;> rfl
@[simp ↓] theorem cE_lc {own : List Nat} {g : FG} {k : Env → R → Rs β} : cE (fLc own a g t v) env h k = cA a env h fun e xs => cLc own g t v xs e h k := by
  unfold cE cA cLc
  rw [fLc_ap, on_bind]
  refine congrArg _ (funext fun p => ?_)
  rw [on_grd, on_bind]; rfl
theorem cLc_ok {own : List Nat} {g : FG} {xs acc : List Dv} {e e1 e2 : Env} {k : Env → R → Rs β} (h2 : fLcL own g t v xs (wipeE e own) [] = .ok (e1, acc)) (h1 : okOwn e own = true) (h3 : backE e e1 own = e2) : cLc own g t v xs e h k = k e2 (.nw (flags acc) (datas acc)) := by
  unfold cLc
  rw [h1, h2, ← h3]; rfl
def cF (fs : List FV) (acc : Str) (env : Env) (h : HX β) (k : Env → Str → Rs β) : Rs β := on (fJs fs acc env) h fun p => k p.1 p.2
@[simp ↓] theorem cE_js {fs : List FV} {k : Env → R → Rs β} : cE (fJoined fs) env h k = cF fs Str.empty env h fun e y => k e (.sh true (.str y)) := by
  unfold cE cF
  rw [fJoined_ap, on_bind]
  rfl
@[simp ↓] theorem cF_nil {acc : Str} {k : Env → Str → Rs β} : cF [] acc env h k = k env acc := id rfl
def sK (d : PyData) (k : Str → Rs β) : Rs β := match d with
  | .str y => k y
  | _ => .bad
@[simp ↓] theorem sK_s {y : Str} {k : Str → Rs β} : sK (.str y) k = k y := id rfl
@[simp ↓] theorem cF_cons {acc : Str} {fs : List FV} {k : Env → Str → Rs β} : cF (v :: fs) acc env h k = cV v env h fun e n d => sK d fun y => grd (decide ((acc ++ y).length ≤ 1000000)) (cF fs (acc ++ y) e h k) := by
  unfold cF cV
  rw [fJs_cons, on_bind]
  refine congrArg _ (funext fun p => ?_)
  obtain ⟨e, n, d⟩ := p
  cases d <;> first | rfl | exact on_grd _ _ _ _
@[simp ↓] theorem cV_fmt {k : Env → Bool → PyData → Rs β} : cV (fFmt v) env h k = cV v env h fun e n d => fmK d fun y => k e true (.str y) := by
  unfold cV
  rw [fFmt_ap, on_bind]
  refine congrArg _ (funext fun p => ?_)
  obtain ⟨e, n, d⟩ := p
  cases d <;> first | rfl | exact on_grd _ _ _ _
@[simp ↓] theorem cE_join {k : Env → R → Rs β} : cE (fJoin va vb) env h k = cV va env h fun e n d => sK d fun y => cV vb e h fun e m d' => oK (gJoin y d') fun z => k e (.sh true (.str z)) := by
  unfold cE cV
  rw [fJoin_ap, on_bind]
  refine congrArg _ (funext fun p => ?_)
  obtain ⟨e, n, d⟩ := p
  cases d with
  | str y =>
    show on ((vb e).bind _) _ _ = on (vb e) _ _
    rw [on_bind]
    refine congrArg _ (funext fun p => ?_)
    show _ = oK (gJoin y p.2.2) fun z => k p.1 (.sh true (.str z))
    cases gJoin y p.2.2 <;> rfl
  | _ => rfl
def cOp (f : FO) (env : Env) (h : HX β) (k : Env → Option Int → Rs β) : Rs β := on (f env) h fun p => k p.1 p.2
@[simp ↓] theorem cOp_no {k : Env → Option Int → Rs β} : cOp fNo env h k = k env none := id rfl
def iK (d : PyData) (k : Int → Rs β) : Rs β := match d with
  | .int y => k y
  | _ => .bad
@[simp ↓] theorem iK_i {y : Int} {k : Int → Rs β} : iK (.int y) k = k y := id rfl
@[simp ↓] theorem cOp_some {k : Env → Option Int → Rs β} : cOp (fPart v) env h k = cV v env h fun e n d => iK d fun i => k e (some i) := by
  unfold cOp cV
  rw [fPart_ap, on_bind]
  refine congrArg _ (funext fun p => ?_)
  obtain ⟨e, n, d⟩ := p
  cases d <;> rfl
@[simp ↓] theorem cE_sl {fl fh : FO} {k : Env → R → Rs β} : cE (fSl v fl fh) env h k = cV v env h fun e n d => cOp fl e h fun e lo => cOp fh e h fun e hi => cR (gSl (n, d) lo hi) h fun r => k e r := by
  unfold cE cV cOp cR
  rw [fSl_ap, on_bind]
  refine congrArg _ (funext fun p => ?_)
  rw [on_bind]
  refine congrArg _ (funext fun q => ?_)
  rw [on_bind]
  refine congrArg _ (funext fun q => ?_)
  rw [on_bind]; rfl
@[simp ↓] theorem cR_sl {lo hi : Option Int} {k : R → Rs β} : cR (gSl (n, .list ds) lo hi) h k = k (.nw n (cutD ds lo hi)) := id rfl
@[simp ↓] theorem cR_st {lo hi : Option Int} {k : R → Rs β} : cR (gSl (n, .tuple ds) lo hi) h k = k (.sh n (.tuple (cutD ds lo hi))) := id rfl
@[simp ↓] theorem cT_yes {k : Bool → Rs β} : cT fYes env h k = k true := id rfl
@[simp ↓] theorem cT_b {k : Bool → Rs β} : cT (fB v) env h k = cV v (lent env) (fun _ x => h env x) fun _ _ d => cBo d k := by
  unfold cT cV
  rw [fB_ap]
  cases v (lent env) with
  | bad => rfl
  | ex e x => rfl
  | ok p =>
    obtain ⟨e, n, d⟩ := p
    cases d <;> rfl
@[simp ↓] theorem cT_not {k : Bool → Rs β} : cT (fNot t) env h k = cT t env h fun b => k (!b) := by
  unfold cT
  rw [fNot_ap, on_bind]; rfl
@[simp ↓] theorem cT_and {k : Bool → Rs β} : cT (fAnd t u) env h k = cT t env h fun b => ifK b (cT u env h k) (k false) := by
  unfold cT
  rw [fAnd_ap, on_bind]
  refine congrArg _ (funext fun b => ?_)
  rw [on_if]; rfl
@[simp ↓] theorem cT_or {k : Bool → Rs β} : cT (fOr t u) env h k = cT t env h fun b => ifK b (k true) (cT u env h k) := by
  unfold cT
  rw [fOr_ap, on_bind]
  refine congrArg _ (funext fun b => ?_)
  rw [on_if]; rfl
def seK (q : FS) (h : HX β) (k : Out → Rs β) (o : Out) : Rs β := match o with
  | .nx e => cO q e h k
  | o => k o
@[simp ↓] theorem seK_nx {k : Out → Rs β} : seK q h k (.nx e) = cO q e h k := id rfl
@[simp ↓] theorem seK_rt {k : Out → Rs β} {r : R} : seK q h k (.rt r) = k (.rt r) := id rfl
@[simp ↓] theorem seK_bk {k : Out → Rs β} : seK q h k (.bk e) = k (.bk e) := id rfl
@[simp ↓] theorem seK_ct {k : Out → Rs β} : seK q h k (.ct e) = k (.ct e) := id rfl
@[simp ↓] theorem cO_seq {k : Out → Rs β} : cO (fSeq p q) env h k = cO p env h (seK q h k) := by
  unfold cO
  rw [fSeq_ap, on_bind]
  refine congrArg _ (funext fun o => ?_)
  cases o <;> rfl
@[simp ↓] theorem cO_next {k : Out → Rs β} : cO fNext env h k = k (.nx env) := id rfl
@[simp ↓] theorem cO_drop {k : Out → Rs β} : cO (fDrop f) env h k = cE f env h fun e _ => k (.nx e) := by
  unfold cO cE
  rw [fDrop_ap, on_bind]; rfl
def reK (e : Env) (r : R) (h : HX β) (k : Out → Rs β) : Rs β := on (retR (e, r)) h k
@[simp ↓] theorem reK_sh {k : Out → Rs β} : reK e (.sh n d) h k = k (.rt (.sh n d)) := id rfl
@[simp ↓] theorem reK_nw {k : Out → Rs β} : reK e (.nw n ds) h k = k (.rt (.nw n ds)) := id rfl
@[simp ↓] theorem cO_ret {k : Out → Rs β} : cO (fRet f) env h k = cE f env h fun e r => reK e r h k := by
  unfold cO cE reK
  rw [fRet_ap, on_bind]
@[simp ↓] theorem cO_retN {k : Out → Rs β} : cO fRetN env h k = k (.rt (.sh true .none)) := id rfl
def puK (i : Nat) (e : Env) (r : R) (h : HX β) (k : Env → Rs β) : Rs β := on (put i (e, r)) h k
@[simp ↓] theorem puK_sh {i : Nat} {k : Env → Rs β} : puK i e (.sh n d) h k = cP i e (some (.sh n d)) k := id rfl
@[simp ↓] theorem puK_nw {i : Nat} {k : Env → Rs β} : puK i e (.nw n ds) h k = cP i e (some (.ow n ds)) k := id rfl
@[simp ↓] theorem cO_set {i : Nat} {k : Out → Rs β} : cO (fSet i f) env h k = cE f env h fun e r => puK i e r h fun e => k (.nx e) := by
  unfold cO cE puK
  rw [fSet_ap, on_bind]
  refine congrArg _ (funext fun p => ?_)
  rw [on_bind]; rfl
@[simp ↓] theorem cG_n {i : Nat} {k : Env → Rs β} : cG (gN i) n d env h k = cP i env (some (.sh (n || atom d) d)) k := id rfl
@[simp ↓] theorem cGs_n {k : Env → Rs β} : cGs gsN n [] env h k = k env := id rfl
@[simp ↓] theorem cGs_c {x : FG} {y : FGs} {k : Env → Rs β} : cGs (gsC x y) n (d :: ds) env h k = cG x n d env h fun e => cGs y n ds e h k := by
  unfold cGs cG
  rw [gsC_ap, on_bind]
@[simp ↓] theorem cG_t {x : FGs} {j : Nat} {k : Env → Rs β} : cG (gT j x) n (.tuple ds) env h k = grd (decide (ds.length = j)) (cGs x n ds env h k) := by
  unfold cGs cG
  rw [gT_ap, on_grd]
@[simp ↓] theorem cO_asg {x : FG} {k : Out → Rs β} : cO (fAsg x v) env h k = cV v env h fun e n d => cG x n d e h fun e => k (.nx e) := by
  unfold cO cV cG
  rw [fAsg_ap, on_bind]
  refine congrArg _ (funext fun p => ?_)
  rw [on_bind]; rfl
def apK (i : Nat) (e : Env) (n : Bool) (d : PyData) (h : HX β) (k : Out → Rs β) : Rs β := on (appS e i (n, d) (gt e i)) h k
@[simp ↓] theorem cO_app {i : Nat} {k : Out → Rs β} : cO (fApp i v) env h k = grd (isOw (gt env i)) (cV v env h fun e n d => apK i e n d h k) := by
  unfold cO cV apK
  rw [fApp_ap, on_grd, on_bind]
def siK (i : Nat) (e : Env) (n : Bool) (d kd : PyData) (h : HX β) (k : Out → Rs β) : Rs β := on (setS e i (n, d) kd (gt e i)) h k
@[simp ↓] theorem cO_putIx {i : Nat} {k : Out → Rs β} : cO (fPutIx i va vb) env h k = cV vb env h fun e n d => grd (isOw (gt e i)) (cV va e h fun e _ d' => siK i e n d d' h k) := by
  unfold cO cV siK
  rw [fPutIx_ap, on_bind]
  refine congrArg _ (funext fun p => ?_)
  rw [on_grd, on_bind]
@[simp ↓] theorem cO_ifs {k : Out → Rs β} : cO (fIfS t p q) env h k = cT t env h fun b => ifK b (cO p env h k) (cO q env h k) := by
  unfold cO cT
  rw [fIfS_ap, on_bind]
  refine congrArg _ (funext fun b => ?_)
  rw [on_if]
@[simp ↓] theorem cO_for {g : FG} {k : Out → Rs β} : cO (fFor a g p) env h k = cA a env h fun e xs => cL g p xs e h k := by
  unfold cO cA cL
  rw [fFor_ap, on_bind]
theorem cL_ok {g : FG} {xs : List Dv} {o : Out} {k : Out → Rs β} (z : fLoop g p xs e = .ok o) : cL g p xs e h k = k o := by unfold cL; rw [z]; rfl
def fgK (is : List Nat) (k : Out → Rs β) (o : Out) : Rs β := k (fgO is o)
@[simp ↓] theorem fgK_nx {is : List Nat} {k : Out → Rs β} : fgK is k (.nx e) = cW is e fun e => k (.nx e) := id rfl
@[simp ↓] theorem fgK_bk {is : List Nat} {k : Out → Rs β} : fgK is k (.bk e) = cW is e fun e => k (.bk e) := id rfl
@[simp ↓] theorem fgK_ct {is : List Nat} {k : Out → Rs β} : fgK is k (.ct e) = cW is e fun e => k (.ct e) := id rfl
@[simp ↓] theorem fgK_rt {is : List Nat} {r : R} {k : Out → Rs β} : fgK is k (.rt r) = k (.rt r) := id rfl
@[simp ↓] theorem cO_fg {is : List Nat} {k : Out → Rs β} : cO (fFg is p) env h k = cO p env h (fgK is k) := by
  unfold cO
  rw [fFg_ap, on_bind]; rfl
theorem wipe_rev {is : List Nat} : ∀ (e : Env) (i : Nat), wipeE (e.set i none) is = (wipeE e is).set i none := by
  induction is with
  | nil => exact fun _ _ => rfl
  | cons j js ih =>
    intro e i
    show (wipeE (e.set i none) js).set j none = ((wipeE e js).set j none).set i none
    rw [ih]
    by_cases z : i = j
    · rw [z]
    · exact List.set_comm _ _ z
@[simp ↓] theorem cW_nil {k : Env → Rs β} : cW [] e k = k e := id rfl
@[simp ↓] theorem cW_cons {i : Nat} {is : List Nat} {k : Env → Rs β} : cW (i :: is) e k = cP i e none fun e => cW is e k := by
  show k ((wipeE e is).set i none) = k (wipeE (e.set i none) is)
  rw [wipe_rev]
def itK (e : Env) (n : Bool) (d : PyData) (h : HX β) (k : Env → List Dv → Rs β) : Rs β := match d with
  | .list ds => k e (ds.map fun d => (n, d))
  | .tuple ds => k e (ds.map fun d => (n, d))
  | .str x => k e (x.cps.toList.map fun c => (true, .str ⟨#[c]⟩))
  | _ => .bad
@[simp ↓] theorem itK_l {k : Env → List Dv → Rs β} : itK e n (.list ds) h k = k e (wk n ds) := id rfl
@[simp ↓] theorem itK_t {k : Env → List Dv → Rs β} : itK e n (.tuple ds) h k = k e (wk n ds) := id rfl
@[simp ↓] theorem itK_s {x : Str} {k : Env → List Dv → Rs β} : itK e n (.str x) h k = k e (wk true (x.cps.toList.map fun c => .str ⟨#[c]⟩)) := by
  show k e (x.cps.toList.map fun c => (true, .str ⟨#[c]⟩)) = _
  unfold wk; rw [List.map_map]; rfl
@[simp ↓] theorem cA_it {k : Env → List Dv → Rs β} : cA (fIt v) env h k = cV v env h fun e n d => itK e n d h k := by
  unfold cA cV
  rw [fIt_ap, on_bind]
  refine congrArg _ (funext fun p => ?_)
  obtain ⟨e, n, d⟩ := p
  cases d <;> rfl
def rg1K (e : Env) (ps : List Dv) (h : HX β) (k : Env → List Dv → Rs β) : Rs β := match ps with
  | [(_, .int j)] => grd (small j) (k e ((List.range j.toNat).map fun (i : Nat) => (true, .int (0 + i))))
  | _ => .bad
@[simp ↓] theorem rg1K_i {j : Int} {k : Env → List Dv → Rs β} : rg1K e [(n, .int j)] h k = grd (small j) (k e (wk true ((List.range j.toNat).map fun (i : Nat) => .int (i : Int)))) := by
  show grd (small j) (k e ((List.range j.toNat).map fun (i : Nat) => (true, .int (0 + i)))) = _
  unfold wk; rw [List.map_map]; simp only [Int.zero_add]; rfl
theorem rg1_eq (b : Env × List Dv) (k : Env → List Dv → Rs β) : on (match b.2 with
    | [(_, .int j)] => grd (small j) (.ok (b.1, (List.range j.toNat).map fun (i : Nat) => ((true, .int (0 + i)) : Dv)))
    | _ => .bad) h (fun p => k p.1 p.2) = rg1K b.1 b.2 h k := by
  unfold rg1K
  split
  · exact on_grd _ _ _ _
  · rfl
@[simp ↓] theorem cA_rg1 {k : Env → List Dv → Rs β} : cA (fRg1 a) env h k = cA a env h fun e ps => rg1K e ps h k := by
  unfold cA
  rw [fRg1_ap, on_bind]
  exact congrArg _ (funext fun p => rg1_eq p k)
def rg2K (e : Env) (ps : List Dv) (h : HX β) (k : Env → List Dv → Rs β) : Rs β := match ps with
  | [(_, .int i), (_, .int j)] => grd (small i && small j) (k e ((List.range (j - i).toNat).map fun (x : Nat) => (true, .int (i + x))))
  | _ => .bad
@[simp ↓] theorem rg2K_i {i j : Int} {k : Env → List Dv → Rs β} : rg2K e [(n, .int i), (m, .int j)] h k = grd (small i && small j) (k e (wk true ((List.range (j - i).toNat).map fun (x : Nat) => .int (i + (x : Int))))) := by
  show grd (small i && small j) (k e ((List.range (j - i).toNat).map fun (x : Nat) => (true, .int (i + x)))) = _
  unfold wk; rw [List.map_map]; rfl
theorem rg2_eq (b : Env × List Dv) (k : Env → List Dv → Rs β) : on (match b.2 with
    | [(_, .int i), (_, .int j)] => grd (small i && small j) (.ok (b.1, (List.range (j - i).toNat).map fun (x : Nat) => ((true, .int (i + x)) : Dv)))
    | _ => .bad) h (fun p => k p.1 p.2) = rg2K b.1 b.2 h k := by
  unfold rg2K
  split
  · exact on_grd _ _ _ _
  · rfl
@[simp ↓] theorem cA_rg2 {k : Env → List Dv → Rs β} : cA (fRg2 a) env h k = cA a env h fun e ps => rg2K e ps h k := by
  unfold cA
  rw [fRg2_ap, on_bind]
  exact congrArg _ (funext fun p => rg2_eq p k)
theorem small_ok {i : Int} (h : -(2 ^ 62) ≤ i ∧ i < 2 ^ 62) : small i = true := by
  unfold small; rw [decide_eq_true h.1, decide_eq_true h.2]; rfl
@[simp ↓] theorem grd_small {i : Int} {r : Rs β} (z : -4611686018427387904 ≤ i ∧ i < 4611686018427387904) : grd (small i) r = r := by
  rw [small_ok (by omega)]; rfl
@[simp ↓] theorem cR_I {c : Int → Int → Bool} {g : Int → Int → PyData} {i j : Int} {k : R → Rs β} : cR (gI c g (n, .int i) (m, .int j)) h k = grd (c i j) (k (.sh true (g i j))) := on_grd _ _ _ _
@[simp ↓ high] theorem cR_p18 {k : R → Rs β} : cR (gPow (n, .int 10) (m, .int 18)) h k = k (.sh true (.int 1000000000000000000)) := by
  have z : cPow 10 18 = true := by decide
  have y : (10 : Int) ^ (18 : Int).toNat = 1000000000000000000 := by decide
  show on (grd (cPow 10 18) (.ok (.sh true (.int ((10 : Int) ^ (18 : Int).toNat))))) h k = _
  rw [z, y]; rfl
@[simp ↓] theorem cR_mul {i j : Int} {k : R → Rs β} : cR (gMul (n, .int i) (m, .int j)) h k = grd (cMul i j) (k (.sh true (.int (i * j)))) := on_grd _ _ _ _
@[simp ↓] theorem grd_pos {i j : Int} {r : Rs β} (z : 0 < j) : grd (cPos i j) r = r := by unfold cPos; rw [decide_eq_true z]; rfl
@[simp ↓] theorem grd_div {i j : Int} {r : Rs β} (z : 0 < j ∧ j < 1073741824) : grd (cDiv i j) r = r := by unfold cDiv; rw [decide_eq_true z.1, decide_eq_true z.2]; rfl
@[simp ↓] theorem grd_mulr {i j : Int} {r : Rs β} (z : -18446744073709551616 < j ∧ j < 18446744073709551616) : grd (cMul i j) r = r := by
  unfold cMul; rw [decide_eq_true (p := -(2 ^ 64) < j) (by omega), decide_eq_true (p := j < 2 ^ 64) (by omega)]; simp [grd]
@[simp ↓] theorem grd_mull {i j : Int} {r : Rs β} (z : -18446744073709551616 < i ∧ i < 18446744073709551616) : grd (cMul i j) r = r := by
  unfold cMul; rw [decide_eq_true (p := -(2 ^ 64) < i) (by omega), decide_eq_true (p := i < 2 ^ 64) (by omega)]; simp [grd]
@[simp ↓] theorem grd_pow {i j : Int} {r : Rs β} (z : 0 ≤ j ∧ j ≤ 1000 ∧ -18446744073709551616 < i ∧ i < 18446744073709551616) : grd (cPow i j) r = r := by
  unfold cPow; rw [decide_eq_true z.1, decide_eq_true z.2.1, decide_eq_true (p := i.natAbs < 2 ^ 64) (by omega)]; rfl
@[simp ↓] theorem cR_addI {i j : Int} {k : R → Rs β} : cR (gAdd (n, .int i) (m, .int j)) h k = k (.sh true (.int (i + j))) := id rfl
@[simp ↓] theorem cR_addS {x y : Str} {k : R → Rs β} : cR (gAdd (n, .str x) (m, .str y)) h k = grd (decide (x.length + y.length ≤ 1000000)) (k (.sh true (.str (x ++ y)))) := on_grd _ _ _ _
@[simp ↓] theorem cR_addL {x y : List PyData} {k : R → Rs β} : cR (gAdd (n, .list x) (m, .list y)) h k = grd (decide (x.length + y.length ≤ 1000000)) (k (.nw (n && m) (x ++ y))) := on_grd _ _ _ _
@[simp ↓] theorem cR_addT {x y : List PyData} {k : R → Rs β} : cR (gAdd (n, .tuple x) (m, .tuple y)) h k = grd (decide (x.length + y.length ≤ 1000000)) (k (.sh (n && m) (.tuple (x ++ y)))) := on_grd _ _ _ _
/-- one of several -/
def ixK (n : Bool) (o : Option PyData) (k : R → Rs β) : Rs β := match o with
  | some d => k (.sh (n || atom d) d)
  | none => .bad
@[simp ↓] theorem ixK_s {k : R → Rs β} : ixK n (some d) k = k (.sh (n || atom d) d) := id rfl
@[simp ↓ low] theorem cR_ixL {i : Int} {k : R → Rs β} : cR (gIx (n, .list ds) (m, .int i)) h k = ixK n (atI ds i) k := by
  unfold cR ixK; rw [gIx_list]; cases atI ds i <;> rfl
@[simp ↓ low] theorem cR_ixT {i : Int} {k : R → Rs β} : cR (gIx (n, .tuple ds) (m, .int i)) h k = ixK n (atI ds i) k := by
  unfold cR ixK; rw [gIx_tuple]; cases atI ds i <;> rfl
section
variable {α : Type} [Inhabited α] {c : α → PyData} {xs : List α} {i : Int}
theorem atI_m (z : 0 ≤ i ∧ i < xs.length) : atI (xs.map c) i = some (c (iat xs i)) := by
  unfold atI ixN
  have hk : i.toNat < xs.length := by omega
  rw [if_pos z.1, List.length_map, if_pos z.2]
  show (xs.map c)[i.toNat]? = _
  unfold iat; rw [List.getElem?_map, List.getElem?_eq_getElem hk, List.getD_eq_getElem?_getD, List.getElem?_eq_getElem hk]
  rfl
@[simp ↓] theorem cR_ixLm {k : R → Rs β} (z : 0 ≤ i ∧ i < xs.length) : cR (gIx (n, .list (xs.map c)) (m, .int i)) h k = k (.sh (n || atom (c (iat xs i))) (c (iat xs i))) := by
  rw [cR_ixL, atI_m z]; rfl
@[simp ↓] theorem cR_ixTm {k : R → Rs β} (z : 0 ≤ i ∧ i < xs.length) : cR (gIx (n, .tuple (xs.map c)) (m, .int i)) h k = k (.sh (n || atom (c (iat xs i))) (c (iat xs i))) := by
  rw [cR_ixT, atI_m z]; rfl
end
@[simp ↓] theorem ixK_0 {i : Int} {x0 : PyData} {k : R → Rs β} (z : i = 0) : ixK n (atI (x0 :: ds) i) k = k (.sh (n || atom x0) x0) := by
  subst z
  have : atI (x0 :: ds) 0 = some x0 := by
    unfold atI ixN
    rw [if_pos (by decide), if_pos (by simp only [List.length_cons]; omega)]; rfl
  rw [this]; rfl
@[simp ↓] theorem ixK_1 {i : Int} {x0 x1 : PyData} {k : R → Rs β} (z : i = 1) : ixK n (atI (x0 :: x1 :: ds) i) k = k (.sh (n || atom x1) x1) := by
  subst z
  have : atI (x0 :: x1 :: ds) 1 = some x1 := by
    unfold atI ixN
    rw [if_pos (by decide), if_pos (by simp only [List.length_cons]; omega)]; rfl
  rw [this]; rfl
@[simp ↓] theorem ixK_2 {i : Int} {x0 x1 x2 : PyData} {k : R → Rs β} (z : i = 2) : ixK n (atI (x0 :: x1 :: x2 :: ds) i) k = k (.sh (n || atom x2) x2) := by
  subst z
  have : atI (x0 :: x1 :: x2 :: ds) 2 = some x2 := by
    unfold atI ixN
    rw [if_pos (by decide), if_pos (by simp only [List.length_cons]; omega)]; rfl
  rw [this]; rfl
@[simp ↓] theorem ixK_3 {i : Int} {x0 x1 x2 x3 : PyData} {k : R → Rs β} (z : i = 3) : ixK n (atI (x0 :: x1 :: x2 :: x3 :: ds) i) k = k (.sh (n || atom x3) x3) := by
  subst z
  have : atI (x0 :: x1 :: x2 :: x3 :: ds) 3 = some x3 := by
    unfold atI ixN
    rw [if_pos (by decide), if_pos (by simp only [List.length_cons]; omega)]; rfl
  rw [this]; rfl
@[simp ↓] theorem ixK_4 {i : Int} {x0 x1 x2 x3 x4 : PyData} {k : R → Rs β} (z : i = 4) : ixK n (atI (x0 :: x1 :: x2 :: x3 :: x4 :: ds) i) k = k (.sh (n || atom x4) x4) := by
  subst z
  have : atI (x0 :: x1 :: x2 :: x3 :: x4 :: ds) 4 = some x4 := by
    unfold atI ixN
    rw [if_pos (by decide), if_pos (by simp only [List.length_cons]; omega)]; rfl
  rw [this]; rfl
@[simp ↓] theorem ixK_5 {i : Int} {x0 x1 x2 x3 x4 x5 : PyData} {k : R → Rs β} (z : i = 5) : ixK n (atI (x0 :: x1 :: x2 :: x3 :: x4 :: x5 :: ds) i) k = k (.sh (n || atom x5) x5) := by
  subst z
  have : atI (x0 :: x1 :: x2 :: x3 :: x4 :: x5 :: ds) 5 = some x5 := by
    unfold atI ixN
    rw [if_pos (by decide), if_pos (by simp only [List.length_cons]; omega)]; rfl
  rw [this]; rfl
/-- is it the same -/
def eqK (neg : Bool) (o : Option Bool) (k : R → Rs β) : Rs β := match o with
  | some b => k (.sh true (.bool (if neg = true then !b else b)))
  | none => .bad
@[simp ↓] theorem eqK_t {b : Bool} {k : R → Rs β} : eqK false (some b) k = k (.sh true (.bool b)) := id rfl
@[simp ↓] theorem eqK_f {b : Bool} {k : R → Rs β} : eqK true (some b) k = k (.sh true (.bool (!b))) := id rfl
@[simp ↓] theorem eqK_ii {i j : Int} {neg : Bool} {k : R → Rs β} : eqK neg (eqB (.int i) (.int j)) k = eqK neg (some (decide (i = j))) k := id rfl
@[simp ↓] theorem eqK_ss {i j : Str} {neg : Bool} {k : R → Rs β} : eqK neg (eqB (.str i) (.str j)) k = eqK neg (some (decide (i = j))) k := id rfl
@[simp ↓] theorem eqK_bb {i j : Bool} {neg : Bool} {k : R → Rs β} : eqK neg (eqB (.bool i) (.bool j)) k = eqK neg (some (decide (i = j))) k := id rfl
@[simp ↓] theorem eqK_ni {j : Int} {neg : Bool} {k : R → Rs β} : eqK neg (eqB .none (.int j)) k = eqK neg (some false) k := id rfl
@[simp ↓] theorem eqK_in {j : Int} {neg : Bool} {k : R → Rs β} : eqK neg (eqB (.int j) .none) k = eqK neg (some false) k := id rfl
@[simp ↓] theorem cR_eq {neg : Bool} {d' : PyData} {k : R → Rs β} : cR (gEqN neg (n, d) (m, d')) h k = eqK neg (eqB d d') k := by
  unfold cR eqK; rw [gEqN_ap]
  show on (match eqB d d' with
    | some b => .ok (.sh true (.bool (if neg = true then !b else b)))
    | none => .bad) h k = _
  cases eqB d d' <;> rfl
@[simp ↓] theorem cR_is {k : R → Rs β} : cR (gIsN false (n, d) (m, .none)) h k = k (.sh true (.bool (isNon d))) := id rfl
@[simp ↓] theorem cR_isn {k : R → Rs β} : cR (gIsN true (n, d) (m, .none)) h k = k (.sh true (.bool (!isNon d))) := id rfl
@[simp ↓] theorem cBo_n1 {i : Int} {k : Bool → Rs β} : cBo (.bool (isNon (.int i))) k = k false := id rfl
@[simp ↓] theorem cBo_n2 {k : Bool → Rs β} : cBo (.bool (isNon .none)) k = k true := id rfl
@[simp ↓] theorem cBo_n3 {i : Int} {k : Bool → Rs β} : cBo (.bool (!isNon (.int i))) k = k true := id rfl
@[simp ↓] theorem cBo_n4 {k : Bool → Rs β} : cBo (.bool (!isNon .none)) k = k false := id rfl
@[simp ↓] theorem cBo_n5 {k : Bool → Rs β} : cBo (.bool (isNon (.tuple ds))) k = k false := id rfl
@[simp ↓] theorem cBo_n6 {k : Bool → Rs β} : cBo (.bool (!isNon (.tuple ds))) k = k true := id rfl
@[simp ↓ low] theorem cR_lenL {k : R → Rs β} : cR (bLen (n, .list ds)) h k = k (.sh true (.int ds.length)) := id rfl
@[simp ↓ low] theorem cR_lenT {k : R → Rs β} : cR (bLen (n, .tuple ds)) h k = k (.sh true (.int ds.length)) := id rfl
@[simp ↓] theorem cR_lenLm {α : Type} {c : α → PyData} {xs : List α} {k : R → Rs β} : cR (bLen (n, .list (xs.map c))) h k = k (.sh true (.int xs.length)) := by rw [cR_lenL, List.length_map]
@[simp ↓] theorem cR_lenTm {α : Type} {c : α → PyData} {xs : List α} {k : R → Rs β} : cR (bLen (n, .tuple (xs.map c))) h k = k (.sh true (.int xs.length)) := by rw [cR_lenT, List.length_map]
@[simp ↓] theorem cR_lenS {x : Str} {k : R → Rs β} : cR (bLen (n, .str x)) h k = grd (decide (x.length ≤ 1000000)) (k (.sh true (.int x.length))) := on_grd _ _ _ _
@[simp ↓] theorem cR_intI {i : Int} {k : R → Rs β} : cR (bInt (n, .int i)) h k = k (.sh true (.int i)) := id rfl
@[simp ↓] theorem cR_strI {i : Int} {k : R → Rs β} : cR (bStr (n, .int i)) h k = grd (decide (i.natAbs < 2 ^ 60)) (k (.sh true (.str (Str.ofString (toString i))))) := on_grd _ _ _ _
@[simp ↓] theorem cR_reprL {k : R → Rs β} : cR (bRepr (n, .list ds)) h k = grd (reprOk (.list ds)) (k (.sh true (.str (PyData.shown (.list ds))))) := on_grd _ _ _ _
@[simp ↓] theorem cR_reprT {k : R → Rs β} : cR (bRepr (n, .tuple ds)) h k = grd (reprOk (.tuple ds)) (k (.sh true (.str (PyData.shown (.tuple ds))))) := on_grd _ _ _ _
@[simp ↓] theorem fmK_s {y : Str} {k : Str → Rs β} : fmK (.str y) k = grd (decide (y.length ≤ 1000000)) (k y) := id rfl
@[simp ↓] theorem fmK_i {i : Int} {k : Str → Rs β} : fmK (.int i) k = grd (decide (i.natAbs < 2 ^ 60)) (k (Str.ofString (toString i))) := id rfl
@[simp ↓] theorem oK_s {y : Str} {k : Str → Rs β} : oK (some y) k = k y := id rfl
end
section
variable {β : Type} {h : HX β} {e : Env} {n m : Bool} {a b : List Nat} {xs : List (List Nat)} {j : Nat}
abbrev cS (a : List Nat) : PyData := .str (SX.S a)
/-- the signs of a number -/
def numC (i : Int) : List Nat := (toString i).toList.map Char.toNat
theorem num_str (i : Int) : Str.ofString (toString i) = SX.S (numC i) := Str.ofString_eq_toList _
@[simp ↓ high] theorem fmK_S {k : Str → Rs β} : fmK (cS a) k = grd (decide (a.length ≤ 1000000)) (k (SX.S a)) := by
  rw [fmK_s, SX.S_len]
@[simp ↓ high] theorem fmK_N {i : Int} {k : Str → Rs β} : fmK (.int i) k = grd (decide (i.natAbs < 1152921504606846976)) (k (SX.S (numC i))) := by
  rw [fmK_i, num_str]
@[simp ↓ high] theorem cR_strN {i : Int} {k : R → Rs β} : cR (bStr (n, .int i)) h k = grd (decide (i.natAbs < 1152921504606846976)) (k (.sh true (cS (numC i)))) := by
  rw [cR_strI, num_str]
@[simp ↓] theorem cF_emp {fs : List FV} {k : Env → Str → Rs β} : cF fs Str.empty e h k = cF fs (SX.S []) e h k := id rfl
@[simp ↓ high] theorem cF_cat {fs : List FV} {k : Env → Str → Rs β} : cF fs (SX.S a ++ SX.S b) e h k = cF fs (SX.S (a ++ b)) e h k := by rw [SX.S_cat]
@[simp ↓ high] theorem grd_cat {r : Rs β} : grd (decide ((SX.S a ++ SX.S b).length ≤ j)) r = grd (decide (a.length + b.length ≤ j)) r := by rw [SX.S_cat, SX.S_len, List.length_append]
@[simp ↓ high] theorem cR_addSS {k : R → Rs β} : cR (gAdd (n, cS a) (m, cS b)) h k = grd (decide (a.length + b.length ≤ 1000000)) (k (.sh true (cS (a ++ b)))) := by
  rw [cR_addS, SX.S_cat, SX.S_len, SX.S_len]
@[simp ↓ high] theorem cR_lenSS {k : R → Rs β} : cR (bLen (n, cS a)) h k = grd (decide (a.length ≤ 1000000)) (k (.sh true (.int a.length))) := by
  rw [cR_lenS, SX.S_len]
@[simp ↓ high] theorem eqK_SS {neg : Bool} {k : R → Rs β} : eqK neg (eqB (cS a) (cS b)) k = eqK neg (some (decide (a = b))) k := by
  have : decide (SX.S a = SX.S b) = decide (a = b) := decide_eq_decide.mpr ⟨SX.S_inj, fun z => by rw [z]⟩
  rw [eqK_ss, this]
@[simp ↓ high] theorem itK_S {k : Env → List Dv → Rs β} : itK e n (cS a) h k = k e (wk true (a.map fun c => cS [c])) := by
  rw [itK_s]
@[simp] theorem S_cat' : SX.S a ++ SX.S b = SX.S (a ++ b) := SX.S_cat a b
@[simp] theorem S_len' : (SX.S a).length = a.length := SX.S_len a
@[simp] theorem grd_p' {p : Prop} [Decidable p] {r : Rs β} (h : p) : grd (decide p) r = r := grd_p h
@[simp] theorem ifK_p' {p : Prop} [Decidable p] {x y : Rs β} (h : p) : ifK (decide p) x y = x := ifK_p h
@[simp] theorem ifK_m' {p : Prop} [Decidable p] {x y : Rs β} (h : ¬ p) : ifK (decide p) x y = y := ifK_m h
theorem strs_S : ∀ xs : List (List Nat), strsOf (xs.map cS) = some (xs.map SX.S)
  | [] => rfl
  | x :: xs => by
    show (strsOf (xs.map cS)).map (SX.S x :: ·) = _
    rw [strs_S xs]; rfl
theorem gJoin_S {d : PyData} (hd : seqOf d = some (xs.map cS)) : gJoin (SX.S a) d = if (xs.map (·.length)).sum + xs.length * a.length ≤ 1000000 then some (SX.S (TL.joinL a xs)) else none := by
  unfold gJoin
  rw [hd]
  dsimp only
  rw [strs_S]
  dsimp only
  rw [SX.lens, SX.S_len, SX.join_S, List.length_map]
@[simp ↓ high] theorem oK_L {k : Str → Rs β} : oK (gJoin (SX.S a) (.list (xs.map cS))) k = grd (decide ((xs.map (·.length)).sum + xs.length * a.length ≤ 1000000)) (k (SX.S (TL.joinL a xs))) := by
  rw [gJoin_S rfl]
  split
  · rename_i z; rw [decide_eq_true z]; rfl
  · rename_i z; rw [decide_eq_false z]; rfl
theorem joinL_nil : ∀ xs : List (List Nat), TL.joinL [] xs = xs.flatten
  | [] => rfl
  | [x] => by simp [TL.joinL]
  | x :: y :: r => by
    show x ++ ([] ++ TL.joinL [] (y :: r)) = _
    rw [joinL_nil (y :: r)]; simp
@[simp ↓ 20000] theorem oK_L0 {k : Str → Rs β} : oK (gJoin (SX.S []) (.list (xs.map cS))) k = grd (decide (xs.flatten.length ≤ 1000000)) (k (SX.S xs.flatten)) := by
  rw [oK_L, joinL_nil, List.length_flatten]; simp only [List.length_nil, Nat.mul_zero, Nat.add_zero]
/-- texts that are at most so long -/
theorem flat_le {xs : List (List Nat)} {b : Nat} (h : ∀ x ∈ xs, x.length ≤ b) : xs.flatten.length ≤ xs.length * b := by
  induction xs with
  | nil => simp
  | cons x xs ih =>
    have h1 := h x List.mem_cons_self
    have h2 := ih fun y hy => h y (List.mem_cons_of_mem _ hy)
    rw [List.flatten_cons, List.length_append, List.length_cons, Nat.succ_mul]
    omega
theorem sum_le {xs : List (List Nat)} {b : Nat} (h : ∀ x ∈ xs, x.length ≤ b) : (xs.map (·.length)).sum ≤ xs.length * b := by
  have := flat_le h
  rwa [List.length_flatten] at this
end
section
variable {β : Type} {h : HX β} {kE : Env → R → Rs β} {kV : Env → Bool → PyData → Rs β} {kP : Env → Rs β} {kO : Out → Rs β} {n m : Bool} {d kd : PyData} {ds : List PyData} {r : Env} {x y : Option Sl} {t : Sl} {j : Int} {α : Type} {c : α → PyData} {xs : List α} {z : α}
@[simp ↓] theorem eS_0 : cE (fVar 0) (some (.sh n d) :: r) h kE = kE (some (.sh n d) :: r) (.sh n d) := id rfl
@[simp ↓] theorem eO_0 : cE (fVar 0) (some (.ow n ds) :: r) h kE = kE (some (.ow n ds) :: r) (.own 0) := id rfl
@[simp ↓] theorem eSl_0 : cE (fVar 0) (lent (some (.sh n d) :: r)) h kE = kE (lent (some (.sh n d) :: r)) (.sh n d) := id rfl
@[simp ↓] theorem eOl_0 : cE (fVar 0) (lent (some (.ow n ds) :: r)) h kE = kE (lent (some (.ow n ds) :: r)) (.sh n (.list ds)) := id rfl
@[simp ↓] theorem vS_0 : cV (rd (fVar 0)) (some (.sh n d) :: r) h kV = kV (some (.sh n d) :: r) n d := id rfl
@[simp ↓] theorem vO_0 : cV (rd (fVar 0)) (some (.ow n ds) :: r) h kV = kV (some (.ow n ds) :: r) n (.list ds) := id rfl
@[simp ↓] theorem vSl_0 : cV (rd (fVar 0)) (lent (some (.sh n d) :: r)) h kV = kV (lent (some (.sh n d) :: r)) n d := id rfl
@[simp ↓] theorem vOl_0 : cV (rd (fVar 0)) (lent (some (.ow n ds) :: r)) h kV = kV (lent (some (.ow n ds) :: r)) n (.list ds) := id rfl
@[simp ↓] theorem kS_0 : cV (st (fVar 0)) (some (.sh n d) :: r) h kV = kV (some (.sh n d) :: r) n d := id rfl
@[simp ↓] theorem kO_0 : cV (st (fVar 0)) (some (.ow n ds) :: r) h kV = kV (some (.sh n (.list ds)) :: r) n (.list ds) := id rfl
@[simp ↓] theorem kSl_0 : cV (st (fVar 0)) (lent (some (.sh n d) :: r)) h kV = kV (lent (some (.sh n d) :: r)) n d := id rfl
@[simp ↓] theorem kOl_0 : cV (st (fVar 0)) (lent (some (.ow n ds) :: r)) h kV = kV (lent (some (.sh n (.list ds)) :: r)) n (.list ds) := id rfl
@[simp ↓] theorem p_0 : cP 0 (x :: r) y kP = kP (y :: r) := id rfl
@[simp ↓] theorem rO_0 : reK (some (.ow n ds) :: r) (.own 0) h kO = kO (.rt (.nw n ds)) := id rfl
@[simp ↓] theorem iO_0 {z : Rs β} : grd (isOw (gt (some (.ow n ds) :: r) 0)) z = z := id rfl
@[simp ↓] theorem rdO_0 : rdK (some (.ow n ds) :: r) (.own 0) h kV = kV (some (.ow n ds) :: r) n (.list ds) := id rfl
@[simp ↓] theorem stO_0 : stK (some (.ow n ds) :: r) (.own 0) h kV = kV (some (.sh n (.list ds)) :: r) n (.list ds) := id rfl
@[simp ↓] theorem pO_0 {i : Nat} : puK i (some (.ow n ds) :: r) (.own 0) h kP = cP i (some (.sh n (.list ds)) :: r) (some (.sh n (.list ds))) kP := id rfl
@[simp ↓ low] theorem aO_0 : apK 0 (some (.ow n ds) :: r) m d h kO = grd (decide (ds.length < 1000000)) (kO (.nx (some (.ow (n && m) (ds ++ [d])) :: r))) := by
  exact on_grd _ _ _ _
@[simp ↓ low] theorem sO_0 (z : 0 ≤ j ∧ j < ds.length) : siK 0 (some (.ow n ds) :: r) m d (.int j) h kO = kO (.nx (some (.ow (n && m) (ds.set j.toNat d)) :: r)) := by
  unfold siK; rw [show gt (some (.ow n ds) :: r) 0 = some (.ow n ds) from rfl, setS_ow, ixN_in z]; rfl
@[simp ↓] theorem aOm_0 : apK 0 (some (.ow n (xs.map c)) :: r) m (c z) h kO = grd (decide (xs.length < 1000000)) (kO (.nx (some (.ow (n && m) ((xs ++ [z]).map c)) :: r))) := by
  rw [aO_0, List.length_map, map_snoc]
@[simp ↓] theorem sOm_0 (q : 0 ≤ j ∧ j < xs.length) : siK 0 (some (.ow n (xs.map c)) :: r) m (c z) (.int j) h kO = kO (.nx (some (.ow (n && m) ((ist xs j z).map c)) :: r)) := by
  rw [sO_0 (by rw [List.length_map]; exact q), map_set]; rfl
@[simp ↓] theorem eS_1 {s0 : Option Sl} : cE (fVar 1) (s0 :: some (.sh n d) :: r) h kE = kE (s0 :: some (.sh n d) :: r) (.sh n d) := id rfl
@[simp ↓] theorem eO_1 {s0 : Option Sl} : cE (fVar 1) (s0 :: some (.ow n ds) :: r) h kE = kE (s0 :: some (.ow n ds) :: r) (.own 1) := id rfl
@[simp ↓] theorem eSl_1 {s0 : Option Sl} : cE (fVar 1) (lent (s0 :: some (.sh n d) :: r)) h kE = kE (lent (s0 :: some (.sh n d) :: r)) (.sh n d) := id rfl
@[simp ↓] theorem eOl_1 {s0 : Option Sl} : cE (fVar 1) (lent (s0 :: some (.ow n ds) :: r)) h kE = kE (lent (s0 :: some (.ow n ds) :: r)) (.sh n (.list ds)) := id rfl
@[simp ↓] theorem vS_1 {s0 : Option Sl} : cV (rd (fVar 1)) (s0 :: some (.sh n d) :: r) h kV = kV (s0 :: some (.sh n d) :: r) n d := id rfl
@[simp ↓] theorem vO_1 {s0 : Option Sl} : cV (rd (fVar 1)) (s0 :: some (.ow n ds) :: r) h kV = kV (s0 :: some (.ow n ds) :: r) n (.list ds) := id rfl
@[simp ↓] theorem vSl_1 {s0 : Option Sl} : cV (rd (fVar 1)) (lent (s0 :: some (.sh n d) :: r)) h kV = kV (lent (s0 :: some (.sh n d) :: r)) n d := id rfl
@[simp ↓] theorem vOl_1 {s0 : Option Sl} : cV (rd (fVar 1)) (lent (s0 :: some (.ow n ds) :: r)) h kV = kV (lent (s0 :: some (.ow n ds) :: r)) n (.list ds) := id rfl
@[simp ↓] theorem kS_1 {s0 : Option Sl} : cV (st (fVar 1)) (s0 :: some (.sh n d) :: r) h kV = kV (s0 :: some (.sh n d) :: r) n d := id rfl
@[simp ↓] theorem kO_1 {s0 : Option Sl} : cV (st (fVar 1)) (s0 :: some (.ow n ds) :: r) h kV = kV (s0 :: some (.sh n (.list ds)) :: r) n (.list ds) := id rfl
@[simp ↓] theorem kSl_1 {s0 : Option Sl} : cV (st (fVar 1)) (lent (s0 :: some (.sh n d) :: r)) h kV = kV (lent (s0 :: some (.sh n d) :: r)) n d := id rfl
@[simp ↓] theorem kOl_1 {s0 : Option Sl} : cV (st (fVar 1)) (lent (s0 :: some (.ow n ds) :: r)) h kV = kV (lent (s0 :: some (.sh n (.list ds)) :: r)) n (.list ds) := id rfl
@[simp ↓] theorem p_1 {s0 : Option Sl} : cP 1 (s0 :: x :: r) y kP = kP (s0 :: y :: r) := id rfl
@[simp ↓] theorem rO_1 {s0 : Option Sl} : reK (s0 :: some (.ow n ds) :: r) (.own 1) h kO = kO (.rt (.nw n ds)) := id rfl
@[simp ↓] theorem iO_1 {s0 : Option Sl} {z : Rs β} : grd (isOw (gt (s0 :: some (.ow n ds) :: r) 1)) z = z := id rfl
@[simp ↓] theorem rdO_1 {s0 : Option Sl} : rdK (s0 :: some (.ow n ds) :: r) (.own 1) h kV = kV (s0 :: some (.ow n ds) :: r) n (.list ds) := id rfl
@[simp ↓] theorem stO_1 {s0 : Option Sl} : stK (s0 :: some (.ow n ds) :: r) (.own 1) h kV = kV (s0 :: some (.sh n (.list ds)) :: r) n (.list ds) := id rfl
@[simp ↓] theorem pO_1 {s0 : Option Sl} {i : Nat} : puK i (s0 :: some (.ow n ds) :: r) (.own 1) h kP = cP i (s0 :: some (.sh n (.list ds)) :: r) (some (.sh n (.list ds))) kP := id rfl
@[simp ↓ low] theorem aO_1 {s0 : Option Sl} : apK 1 (s0 :: some (.ow n ds) :: r) m d h kO = grd (decide (ds.length < 1000000)) (kO (.nx (s0 :: some (.ow (n && m) (ds ++ [d])) :: r))) := by
  exact on_grd _ _ _ _
@[simp ↓ low] theorem sO_1 {s0 : Option Sl} (z : 0 ≤ j ∧ j < ds.length) : siK 1 (s0 :: some (.ow n ds) :: r) m d (.int j) h kO = kO (.nx (s0 :: some (.ow (n && m) (ds.set j.toNat d)) :: r)) := by
  unfold siK; rw [show gt (s0 :: some (.ow n ds) :: r) 1 = some (.ow n ds) from rfl, setS_ow, ixN_in z]; rfl
@[simp ↓] theorem aOm_1 {s0 : Option Sl} : apK 1 (s0 :: some (.ow n (xs.map c)) :: r) m (c z) h kO = grd (decide (xs.length < 1000000)) (kO (.nx (s0 :: some (.ow (n && m) ((xs ++ [z]).map c)) :: r))) := by
  rw [aO_1, List.length_map, map_snoc]
@[simp ↓] theorem sOm_1 {s0 : Option Sl} (q : 0 ≤ j ∧ j < xs.length) : siK 1 (s0 :: some (.ow n (xs.map c)) :: r) m (c z) (.int j) h kO = kO (.nx (s0 :: some (.ow (n && m) ((ist xs j z).map c)) :: r)) := by
  rw [sO_1 (by rw [List.length_map]; exact q), map_set]; rfl
@[simp ↓] theorem eS_2 {s0 s1 : Option Sl} : cE (fVar 2) (s0 :: s1 :: some (.sh n d) :: r) h kE = kE (s0 :: s1 :: some (.sh n d) :: r) (.sh n d) := id rfl
@[simp ↓] theorem eO_2 {s0 s1 : Option Sl} : cE (fVar 2) (s0 :: s1 :: some (.ow n ds) :: r) h kE = kE (s0 :: s1 :: some (.ow n ds) :: r) (.own 2) := id rfl
@[simp ↓] theorem eSl_2 {s0 s1 : Option Sl} : cE (fVar 2) (lent (s0 :: s1 :: some (.sh n d) :: r)) h kE = kE (lent (s0 :: s1 :: some (.sh n d) :: r)) (.sh n d) := id rfl
@[simp ↓] theorem eOl_2 {s0 s1 : Option Sl} : cE (fVar 2) (lent (s0 :: s1 :: some (.ow n ds) :: r)) h kE = kE (lent (s0 :: s1 :: some (.ow n ds) :: r)) (.sh n (.list ds)) := id rfl
@[simp ↓] theorem vS_2 {s0 s1 : Option Sl} : cV (rd (fVar 2)) (s0 :: s1 :: some (.sh n d) :: r) h kV = kV (s0 :: s1 :: some (.sh n d) :: r) n d := id rfl
@[simp ↓] theorem vO_2 {s0 s1 : Option Sl} : cV (rd (fVar 2)) (s0 :: s1 :: some (.ow n ds) :: r) h kV = kV (s0 :: s1 :: some (.ow n ds) :: r) n (.list ds) := id rfl
@[simp ↓] theorem vSl_2 {s0 s1 : Option Sl} : cV (rd (fVar 2)) (lent (s0 :: s1 :: some (.sh n d) :: r)) h kV = kV (lent (s0 :: s1 :: some (.sh n d) :: r)) n d := id rfl
@[simp ↓] theorem vOl_2 {s0 s1 : Option Sl} : cV (rd (fVar 2)) (lent (s0 :: s1 :: some (.ow n ds) :: r)) h kV = kV (lent (s0 :: s1 :: some (.ow n ds) :: r)) n (.list ds) := id rfl
@[simp ↓] theorem kS_2 {s0 s1 : Option Sl} : cV (st (fVar 2)) (s0 :: s1 :: some (.sh n d) :: r) h kV = kV (s0 :: s1 :: some (.sh n d) :: r) n d := id rfl
@[simp ↓] theorem kO_2 {s0 s1 : Option Sl} : cV (st (fVar 2)) (s0 :: s1 :: some (.ow n ds) :: r) h kV = kV (s0 :: s1 :: some (.sh n (.list ds)) :: r) n (.list ds) := id rfl
@[simp ↓] theorem kSl_2 {s0 s1 : Option Sl} : cV (st (fVar 2)) (lent (s0 :: s1 :: some (.sh n d) :: r)) h kV = kV (lent (s0 :: s1 :: some (.sh n d) :: r)) n d := id rfl
@[simp ↓] theorem kOl_2 {s0 s1 : Option Sl} : cV (st (fVar 2)) (lent (s0 :: s1 :: some (.ow n ds) :: r)) h kV = kV (lent (s0 :: s1 :: some (.sh n (.list ds)) :: r)) n (.list ds) := id rfl
@[simp ↓] theorem p_2 {s0 s1 : Option Sl} : cP 2 (s0 :: s1 :: x :: r) y kP = kP (s0 :: s1 :: y :: r) := id rfl
@[simp ↓] theorem rO_2 {s0 s1 : Option Sl} : reK (s0 :: s1 :: some (.ow n ds) :: r) (.own 2) h kO = kO (.rt (.nw n ds)) := id rfl
@[simp ↓] theorem iO_2 {s0 s1 : Option Sl} {z : Rs β} : grd (isOw (gt (s0 :: s1 :: some (.ow n ds) :: r) 2)) z = z := id rfl
@[simp ↓] theorem rdO_2 {s0 s1 : Option Sl} : rdK (s0 :: s1 :: some (.ow n ds) :: r) (.own 2) h kV = kV (s0 :: s1 :: some (.ow n ds) :: r) n (.list ds) := id rfl
@[simp ↓] theorem stO_2 {s0 s1 : Option Sl} : stK (s0 :: s1 :: some (.ow n ds) :: r) (.own 2) h kV = kV (s0 :: s1 :: some (.sh n (.list ds)) :: r) n (.list ds) := id rfl
@[simp ↓] theorem pO_2 {s0 s1 : Option Sl} {i : Nat} : puK i (s0 :: s1 :: some (.ow n ds) :: r) (.own 2) h kP = cP i (s0 :: s1 :: some (.sh n (.list ds)) :: r) (some (.sh n (.list ds))) kP := id rfl
@[simp ↓ low] theorem aO_2 {s0 s1 : Option Sl} : apK 2 (s0 :: s1 :: some (.ow n ds) :: r) m d h kO = grd (decide (ds.length < 1000000)) (kO (.nx (s0 :: s1 :: some (.ow (n && m) (ds ++ [d])) :: r))) := by
  exact on_grd _ _ _ _
@[simp ↓ low] theorem sO_2 {s0 s1 : Option Sl} (z : 0 ≤ j ∧ j < ds.length) : siK 2 (s0 :: s1 :: some (.ow n ds) :: r) m d (.int j) h kO = kO (.nx (s0 :: s1 :: some (.ow (n && m) (ds.set j.toNat d)) :: r)) := by
  unfold siK; rw [show gt (s0 :: s1 :: some (.ow n ds) :: r) 2 = some (.ow n ds) from rfl, setS_ow, ixN_in z]; rfl
@[simp ↓] theorem aOm_2 {s0 s1 : Option Sl} : apK 2 (s0 :: s1 :: some (.ow n (xs.map c)) :: r) m (c z) h kO = grd (decide (xs.length < 1000000)) (kO (.nx (s0 :: s1 :: some (.ow (n && m) ((xs ++ [z]).map c)) :: r))) := by
  rw [aO_2, List.length_map, map_snoc]
@[simp ↓] theorem sOm_2 {s0 s1 : Option Sl} (q : 0 ≤ j ∧ j < xs.length) : siK 2 (s0 :: s1 :: some (.ow n (xs.map c)) :: r) m (c z) (.int j) h kO = kO (.nx (s0 :: s1 :: some (.ow (n && m) ((ist xs j z).map c)) :: r)) := by
  rw [sO_2 (by rw [List.length_map]; exact q), map_set]; rfl
@[simp ↓] theorem eS_3 {s0 s1 s2 : Option Sl} : cE (fVar 3) (s0 :: s1 :: s2 :: some (.sh n d) :: r) h kE = kE (s0 :: s1 :: s2 :: some (.sh n d) :: r) (.sh n d) := id rfl
@[simp ↓] theorem eO_3 {s0 s1 s2 : Option Sl} : cE (fVar 3) (s0 :: s1 :: s2 :: some (.ow n ds) :: r) h kE = kE (s0 :: s1 :: s2 :: some (.ow n ds) :: r) (.own 3) := id rfl
@[simp ↓] theorem eSl_3 {s0 s1 s2 : Option Sl} : cE (fVar 3) (lent (s0 :: s1 :: s2 :: some (.sh n d) :: r)) h kE = kE (lent (s0 :: s1 :: s2 :: some (.sh n d) :: r)) (.sh n d) := id rfl
@[simp ↓] theorem eOl_3 {s0 s1 s2 : Option Sl} : cE (fVar 3) (lent (s0 :: s1 :: s2 :: some (.ow n ds) :: r)) h kE = kE (lent (s0 :: s1 :: s2 :: some (.ow n ds) :: r)) (.sh n (.list ds)) := id rfl
@[simp ↓] theorem vS_3 {s0 s1 s2 : Option Sl} : cV (rd (fVar 3)) (s0 :: s1 :: s2 :: some (.sh n d) :: r) h kV = kV (s0 :: s1 :: s2 :: some (.sh n d) :: r) n d := id rfl
@[simp ↓] theorem vO_3 {s0 s1 s2 : Option Sl} : cV (rd (fVar 3)) (s0 :: s1 :: s2 :: some (.ow n ds) :: r) h kV = kV (s0 :: s1 :: s2 :: some (.ow n ds) :: r) n (.list ds) := id rfl
@[simp ↓] theorem vSl_3 {s0 s1 s2 : Option Sl} : cV (rd (fVar 3)) (lent (s0 :: s1 :: s2 :: some (.sh n d) :: r)) h kV = kV (lent (s0 :: s1 :: s2 :: some (.sh n d) :: r)) n d := id rfl
@[simp ↓] theorem vOl_3 {s0 s1 s2 : Option Sl} : cV (rd (fVar 3)) (lent (s0 :: s1 :: s2 :: some (.ow n ds) :: r)) h kV = kV (lent (s0 :: s1 :: s2 :: some (.ow n ds) :: r)) n (.list ds) := id rfl
@[simp ↓] theorem kS_3 {s0 s1 s2 : Option Sl} : cV (st (fVar 3)) (s0 :: s1 :: s2 :: some (.sh n d) :: r) h kV = kV (s0 :: s1 :: s2 :: some (.sh n d) :: r) n d := id rfl
@[simp ↓] theorem kO_3 {s0 s1 s2 : Option Sl} : cV (st (fVar 3)) (s0 :: s1 :: s2 :: some (.ow n ds) :: r) h kV = kV (s0 :: s1 :: s2 :: some (.sh n (.list ds)) :: r) n (.list ds) := id rfl
@[simp ↓] theorem kSl_3 {s0 s1 s2 : Option Sl} : cV (st (fVar 3)) (lent (s0 :: s1 :: s2 :: some (.sh n d) :: r)) h kV = kV (lent (s0 :: s1 :: s2 :: some (.sh n d) :: r)) n d := id rfl
@[simp ↓] theorem kOl_3 {s0 s1 s2 : Option Sl} : cV (st (fVar 3)) (lent (s0 :: s1 :: s2 :: some (.ow n ds) :: r)) h kV = kV (lent (s0 :: s1 :: s2 :: some (.sh n (.list ds)) :: r)) n (.list ds) := id rfl
@[simp ↓] theorem p_3 {s0 s1 s2 : Option Sl} : cP 3 (s0 :: s1 :: s2 :: x :: r) y kP = kP (s0 :: s1 :: s2 :: y :: r) := id rfl
@[simp ↓] theorem rO_3 {s0 s1 s2 : Option Sl} : reK (s0 :: s1 :: s2 :: some (.ow n ds) :: r) (.own 3) h kO = kO (.rt (.nw n ds)) := id rfl
@[simp ↓] theorem iO_3 {s0 s1 s2 : Option Sl} {z : Rs β} : grd (isOw (gt (s0 :: s1 :: s2 :: some (.ow n ds) :: r) 3)) z = z := id rfl
@[simp ↓] theorem rdO_3 {s0 s1 s2 : Option Sl} : rdK (s0 :: s1 :: s2 :: some (.ow n ds) :: r) (.own 3) h kV = kV (s0 :: s1 :: s2 :: some (.ow n ds) :: r) n (.list ds) := id rfl
@[simp ↓] theorem stO_3 {s0 s1 s2 : Option Sl} : stK (s0 :: s1 :: s2 :: some (.ow n ds) :: r) (.own 3) h kV = kV (s0 :: s1 :: s2 :: some (.sh n (.list ds)) :: r) n (.list ds) := id rfl
@[simp ↓] theorem pO_3 {s0 s1 s2 : Option Sl} {i : Nat} : puK i (s0 :: s1 :: s2 :: some (.ow n ds) :: r) (.own 3) h kP = cP i (s0 :: s1 :: s2 :: some (.sh n (.list ds)) :: r) (some (.sh n (.list ds))) kP := id rfl
@[simp ↓ low] theorem aO_3 {s0 s1 s2 : Option Sl} : apK 3 (s0 :: s1 :: s2 :: some (.ow n ds) :: r) m d h kO = grd (decide (ds.length < 1000000)) (kO (.nx (s0 :: s1 :: s2 :: some (.ow (n && m) (ds ++ [d])) :: r))) := by
  exact on_grd _ _ _ _
@[simp ↓ low] theorem sO_3 {s0 s1 s2 : Option Sl} (z : 0 ≤ j ∧ j < ds.length) : siK 3 (s0 :: s1 :: s2 :: some (.ow n ds) :: r) m d (.int j) h kO = kO (.nx (s0 :: s1 :: s2 :: some (.ow (n && m) (ds.set j.toNat d)) :: r)) := by
  unfold siK; rw [show gt (s0 :: s1 :: s2 :: some (.ow n ds) :: r) 3 = some (.ow n ds) from rfl, setS_ow, ixN_in z]; rfl
@[simp ↓] theorem aOm_3 {s0 s1 s2 : Option Sl} : apK 3 (s0 :: s1 :: s2 :: some (.ow n (xs.map c)) :: r) m (c z) h kO = grd (decide (xs.length < 1000000)) (kO (.nx (s0 :: s1 :: s2 :: some (.ow (n && m) ((xs ++ [z]).map c)) :: r))) := by
  rw [aO_3, List.length_map, map_snoc]
@[simp ↓] theorem sOm_3 {s0 s1 s2 : Option Sl} (q : 0 ≤ j ∧ j < xs.length) : siK 3 (s0 :: s1 :: s2 :: some (.ow n (xs.map c)) :: r) m (c z) (.int j) h kO = kO (.nx (s0 :: s1 :: s2 :: some (.ow (n && m) ((ist xs j z).map c)) :: r)) := by
  rw [sO_3 (by rw [List.length_map]; exact q), map_set]; rfl
@[simp ↓] theorem eS_4 {s0 s1 s2 s3 : Option Sl} : cE (fVar 4) (s0 :: s1 :: s2 :: s3 :: some (.sh n d) :: r) h kE = kE (s0 :: s1 :: s2 :: s3 :: some (.sh n d) :: r) (.sh n d) := id rfl
@[simp ↓] theorem eO_4 {s0 s1 s2 s3 : Option Sl} : cE (fVar 4) (s0 :: s1 :: s2 :: s3 :: some (.ow n ds) :: r) h kE = kE (s0 :: s1 :: s2 :: s3 :: some (.ow n ds) :: r) (.own 4) := id rfl
@[simp ↓] theorem eSl_4 {s0 s1 s2 s3 : Option Sl} : cE (fVar 4) (lent (s0 :: s1 :: s2 :: s3 :: some (.sh n d) :: r)) h kE = kE (lent (s0 :: s1 :: s2 :: s3 :: some (.sh n d) :: r)) (.sh n d) := id rfl
@[simp ↓] theorem eOl_4 {s0 s1 s2 s3 : Option Sl} : cE (fVar 4) (lent (s0 :: s1 :: s2 :: s3 :: some (.ow n ds) :: r)) h kE = kE (lent (s0 :: s1 :: s2 :: s3 :: some (.ow n ds) :: r)) (.sh n (.list ds)) := id rfl
@[simp ↓] theorem vS_4 {s0 s1 s2 s3 : Option Sl} : cV (rd (fVar 4)) (s0 :: s1 :: s2 :: s3 :: some (.sh n d) :: r) h kV = kV (s0 :: s1 :: s2 :: s3 :: some (.sh n d) :: r) n d := id rfl
@[simp ↓] theorem vO_4 {s0 s1 s2 s3 : Option Sl} : cV (rd (fVar 4)) (s0 :: s1 :: s2 :: s3 :: some (.ow n ds) :: r) h kV = kV (s0 :: s1 :: s2 :: s3 :: some (.ow n ds) :: r) n (.list ds) := id rfl
@[simp ↓] theorem vSl_4 {s0 s1 s2 s3 : Option Sl} : cV (rd (fVar 4)) (lent (s0 :: s1 :: s2 :: s3 :: some (.sh n d) :: r)) h kV = kV (lent (s0 :: s1 :: s2 :: s3 :: some (.sh n d) :: r)) n d := id rfl
@[simp ↓] theorem vOl_4 {s0 s1 s2 s3 : Option Sl} : cV (rd (fVar 4)) (lent (s0 :: s1 :: s2 :: s3 :: some (.ow n ds) :: r)) h kV = kV (lent (s0 :: s1 :: s2 :: s3 :: some (.ow n ds) :: r)) n (.list ds) := id rfl
@[simp ↓] theorem kS_4 {s0 s1 s2 s3 : Option Sl} : cV (st (fVar 4)) (s0 :: s1 :: s2 :: s3 :: some (.sh n d) :: r) h kV = kV (s0 :: s1 :: s2 :: s3 :: some (.sh n d) :: r) n d := id rfl
@[simp ↓] theorem kO_4 {s0 s1 s2 s3 : Option Sl} : cV (st (fVar 4)) (s0 :: s1 :: s2 :: s3 :: some (.ow n ds) :: r) h kV = kV (s0 :: s1 :: s2 :: s3 :: some (.sh n (.list ds)) :: r) n (.list ds) := id rfl
@[simp ↓] theorem kSl_4 {s0 s1 s2 s3 : Option Sl} : cV (st (fVar 4)) (lent (s0 :: s1 :: s2 :: s3 :: some (.sh n d) :: r)) h kV = kV (lent (s0 :: s1 :: s2 :: s3 :: some (.sh n d) :: r)) n d := id rfl
@[simp ↓] theorem kOl_4 {s0 s1 s2 s3 : Option Sl} : cV (st (fVar 4)) (lent (s0 :: s1 :: s2 :: s3 :: some (.ow n ds) :: r)) h kV = kV (lent (s0 :: s1 :: s2 :: s3 :: some (.sh n (.list ds)) :: r)) n (.list ds) := id rfl
@[simp ↓] theorem p_4 {s0 s1 s2 s3 : Option Sl} : cP 4 (s0 :: s1 :: s2 :: s3 :: x :: r) y kP = kP (s0 :: s1 :: s2 :: s3 :: y :: r) := id rfl
@[simp ↓] theorem rO_4 {s0 s1 s2 s3 : Option Sl} : reK (s0 :: s1 :: s2 :: s3 :: some (.ow n ds) :: r) (.own 4) h kO = kO (.rt (.nw n ds)) := id rfl
@[simp ↓] theorem iO_4 {s0 s1 s2 s3 : Option Sl} {z : Rs β} : grd (isOw (gt (s0 :: s1 :: s2 :: s3 :: some (.ow n ds) :: r) 4)) z = z := id rfl
@[simp ↓] theorem rdO_4 {s0 s1 s2 s3 : Option Sl} : rdK (s0 :: s1 :: s2 :: s3 :: some (.ow n ds) :: r) (.own 4) h kV = kV (s0 :: s1 :: s2 :: s3 :: some (.ow n ds) :: r) n (.list ds) := id rfl
@[simp ↓] theorem stO_4 {s0 s1 s2 s3 : Option Sl} : stK (s0 :: s1 :: s2 :: s3 :: some (.ow n ds) :: r) (.own 4) h kV = kV (s0 :: s1 :: s2 :: s3 :: some (.sh n (.list ds)) :: r) n (.list ds) := id rfl
@[simp ↓] theorem pO_4 {s0 s1 s2 s3 : Option Sl} {i : Nat} : puK i (s0 :: s1 :: s2 :: s3 :: some (.ow n ds) :: r) (.own 4) h kP = cP i (s0 :: s1 :: s2 :: s3 :: some (.sh n (.list ds)) :: r) (some (.sh n (.list ds))) kP := id rfl
@[simp ↓ low] theorem aO_4 {s0 s1 s2 s3 : Option Sl} : apK 4 (s0 :: s1 :: s2 :: s3 :: some (.ow n ds) :: r) m d h kO = grd (decide (ds.length < 1000000)) (kO (.nx (s0 :: s1 :: s2 :: s3 :: some (.ow (n && m) (ds ++ [d])) :: r))) := by
  exact on_grd _ _ _ _
@[simp ↓ low] theorem sO_4 {s0 s1 s2 s3 : Option Sl} (z : 0 ≤ j ∧ j < ds.length) : siK 4 (s0 :: s1 :: s2 :: s3 :: some (.ow n ds) :: r) m d (.int j) h kO = kO (.nx (s0 :: s1 :: s2 :: s3 :: some (.ow (n && m) (ds.set j.toNat d)) :: r)) := by
  unfold siK; rw [show gt (s0 :: s1 :: s2 :: s3 :: some (.ow n ds) :: r) 4 = some (.ow n ds) from rfl, setS_ow, ixN_in z]; rfl
@[simp ↓] theorem aOm_4 {s0 s1 s2 s3 : Option Sl} : apK 4 (s0 :: s1 :: s2 :: s3 :: some (.ow n (xs.map c)) :: r) m (c z) h kO = grd (decide (xs.length < 1000000)) (kO (.nx (s0 :: s1 :: s2 :: s3 :: some (.ow (n && m) ((xs ++ [z]).map c)) :: r))) := by
  rw [aO_4, List.length_map, map_snoc]
@[simp ↓] theorem sOm_4 {s0 s1 s2 s3 : Option Sl} (q : 0 ≤ j ∧ j < xs.length) : siK 4 (s0 :: s1 :: s2 :: s3 :: some (.ow n (xs.map c)) :: r) m (c z) (.int j) h kO = kO (.nx (s0 :: s1 :: s2 :: s3 :: some (.ow (n && m) ((ist xs j z).map c)) :: r)) := by
  rw [sO_4 (by rw [List.length_map]; exact q), map_set]; rfl
@[simp ↓] theorem eS_5 {s0 s1 s2 s3 s4 : Option Sl} : cE (fVar 5) (s0 :: s1 :: s2 :: s3 :: s4 :: some (.sh n d) :: r) h kE = kE (s0 :: s1 :: s2 :: s3 :: s4 :: some (.sh n d) :: r) (.sh n d) := id rfl
@[simp ↓] theorem eO_5 {s0 s1 s2 s3 s4 : Option Sl} : cE (fVar 5) (s0 :: s1 :: s2 :: s3 :: s4 :: some (.ow n ds) :: r) h kE = kE (s0 :: s1 :: s2 :: s3 :: s4 :: some (.ow n ds) :: r) (.own 5) := id rfl
@[simp ↓] theorem eSl_5 {s0 s1 s2 s3 s4 : Option Sl} : cE (fVar 5) (lent (s0 :: s1 :: s2 :: s3 :: s4 :: some (.sh n d) :: r)) h kE = kE (lent (s0 :: s1 :: s2 :: s3 :: s4 :: some (.sh n d) :: r)) (.sh n d) := id rfl
@[simp ↓] theorem eOl_5 {s0 s1 s2 s3 s4 : Option Sl} : cE (fVar 5) (lent (s0 :: s1 :: s2 :: s3 :: s4 :: some (.ow n ds) :: r)) h kE = kE (lent (s0 :: s1 :: s2 :: s3 :: s4 :: some (.ow n ds) :: r)) (.sh n (.list ds)) := id rfl
@[simp ↓] theorem vS_5 {s0 s1 s2 s3 s4 : Option Sl} : cV (rd (fVar 5)) (s0 :: s1 :: s2 :: s3 :: s4 :: some (.sh n d) :: r) h kV = kV (s0 :: s1 :: s2 :: s3 :: s4 :: some (.sh n d) :: r) n d := id rfl
@[simp ↓] theorem vO_5 {s0 s1 s2 s3 s4 : Option Sl} : cV (rd (fVar 5)) (s0 :: s1 :: s2 :: s3 :: s4 :: some (.ow n ds) :: r) h kV = kV (s0 :: s1 :: s2 :: s3 :: s4 :: some (.ow n ds) :: r) n (.list ds) := id rfl
@[simp ↓] theorem vSl_5 {s0 s1 s2 s3 s4 : Option Sl} : cV (rd (fVar 5)) (lent (s0 :: s1 :: s2 :: s3 :: s4 :: some (.sh n d) :: r)) h kV = kV (lent (s0 :: s1 :: s2 :: s3 :: s4 :: some (.sh n d) :: r)) n d := id rfl
@[simp ↓] theorem vOl_5 {s0 s1 s2 s3 s4 : Option Sl} : cV (rd (fVar 5)) (lent (s0 :: s1 :: s2 :: s3 :: s4 :: some (.ow n ds) :: r)) h kV = kV (lent (s0 :: s1 :: s2 :: s3 :: s4 :: some (.ow n ds) :: r)) n (.list ds) := id rfl
@[simp ↓] theorem kS_5 {s0 s1 s2 s3 s4 : Option Sl} : cV (st (fVar 5)) (s0 :: s1 :: s2 :: s3 :: s4 :: some (.sh n d) :: r) h kV = kV (s0 :: s1 :: s2 :: s3 :: s4 :: some (.sh n d) :: r) n d := id rfl
@[simp ↓] theorem kO_5 {s0 s1 s2 s3 s4 : Option Sl} : cV (st (fVar 5)) (s0 :: s1 :: s2 :: s3 :: s4 :: some (.ow n ds) :: r) h kV = kV (s0 :: s1 :: s2 :: s3 :: s4 :: some (.sh n (.list ds)) :: r) n (.list ds) := id rfl
@[simp ↓] theorem kSl_5 {s0 s1 s2 s3 s4 : Option Sl} : cV (st (fVar 5)) (lent (s0 :: s1 :: s2 :: s3 :: s4 :: some (.sh n d) :: r)) h kV = kV (lent (s0 :: s1 :: s2 :: s3 :: s4 :: some (.sh n d) :: r)) n d := id rfl
@[simp ↓] theorem kOl_5 {s0 s1 s2 s3 s4 : Option Sl} : cV (st (fVar 5)) (lent (s0 :: s1 :: s2 :: s3 :: s4 :: some (.ow n ds) :: r)) h kV = kV (lent (s0 :: s1 :: s2 :: s3 :: s4 :: some (.sh n (.list ds)) :: r)) n (.list ds) := id rfl
@[simp ↓] theorem p_5 {s0 s1 s2 s3 s4 : Option Sl} : cP 5 (s0 :: s1 :: s2 :: s3 :: s4 :: x :: r) y kP = kP (s0 :: s1 :: s2 :: s3 :: s4 :: y :: r) := id rfl
@[simp ↓] theorem rO_5 {s0 s1 s2 s3 s4 : Option Sl} : reK (s0 :: s1 :: s2 :: s3 :: s4 :: some (.ow n ds) :: r) (.own 5) h kO = kO (.rt (.nw n ds)) := id rfl
@[simp ↓] theorem iO_5 {s0 s1 s2 s3 s4 : Option Sl} {z : Rs β} : grd (isOw (gt (s0 :: s1 :: s2 :: s3 :: s4 :: some (.ow n ds) :: r) 5)) z = z := id rfl
@[simp ↓] theorem rdO_5 {s0 s1 s2 s3 s4 : Option Sl} : rdK (s0 :: s1 :: s2 :: s3 :: s4 :: some (.ow n ds) :: r) (.own 5) h kV = kV (s0 :: s1 :: s2 :: s3 :: s4 :: some (.ow n ds) :: r) n (.list ds) := id rfl
@[simp ↓] theorem stO_5 {s0 s1 s2 s3 s4 : Option Sl} : stK (s0 :: s1 :: s2 :: s3 :: s4 :: some (.ow n ds) :: r) (.own 5) h kV = kV (s0 :: s1 :: s2 :: s3 :: s4 :: some (.sh n (.list ds)) :: r) n (.list ds) := id rfl
@[simp ↓] theorem pO_5 {s0 s1 s2 s3 s4 : Option Sl} {i : Nat} : puK i (s0 :: s1 :: s2 :: s3 :: s4 :: some (.ow n ds) :: r) (.own 5) h kP = cP i (s0 :: s1 :: s2 :: s3 :: s4 :: some (.sh n (.list ds)) :: r) (some (.sh n (.list ds))) kP := id rfl
@[simp ↓ low] theorem aO_5 {s0 s1 s2 s3 s4 : Option Sl} : apK 5 (s0 :: s1 :: s2 :: s3 :: s4 :: some (.ow n ds) :: r) m d h kO = grd (decide (ds.length < 1000000)) (kO (.nx (s0 :: s1 :: s2 :: s3 :: s4 :: some (.ow (n && m) (ds ++ [d])) :: r))) := by
  exact on_grd _ _ _ _
@[simp ↓ low] theorem sO_5 {s0 s1 s2 s3 s4 : Option Sl} (z : 0 ≤ j ∧ j < ds.length) : siK 5 (s0 :: s1 :: s2 :: s3 :: s4 :: some (.ow n ds) :: r) m d (.int j) h kO = kO (.nx (s0 :: s1 :: s2 :: s3 :: s4 :: some (.ow (n && m) (ds.set j.toNat d)) :: r)) := by
  unfold siK; rw [show gt (s0 :: s1 :: s2 :: s3 :: s4 :: some (.ow n ds) :: r) 5 = some (.ow n ds) from rfl, setS_ow, ixN_in z]; rfl
@[simp ↓] theorem aOm_5 {s0 s1 s2 s3 s4 : Option Sl} : apK 5 (s0 :: s1 :: s2 :: s3 :: s4 :: some (.ow n (xs.map c)) :: r) m (c z) h kO = grd (decide (xs.length < 1000000)) (kO (.nx (s0 :: s1 :: s2 :: s3 :: s4 :: some (.ow (n && m) ((xs ++ [z]).map c)) :: r))) := by
  rw [aO_5, List.length_map, map_snoc]
@[simp ↓] theorem sOm_5 {s0 s1 s2 s3 s4 : Option Sl} (q : 0 ≤ j ∧ j < xs.length) : siK 5 (s0 :: s1 :: s2 :: s3 :: s4 :: some (.ow n (xs.map c)) :: r) m (c z) (.int j) h kO = kO (.nx (s0 :: s1 :: s2 :: s3 :: s4 :: some (.ow (n && m) ((ist xs j z).map c)) :: r)) := by
  rw [sO_5 (by rw [List.length_map]; exact q), map_set]; rfl
@[simp ↓] theorem eS_6 {s0 s1 s2 s3 s4 s5 : Option Sl} : cE (fVar 6) (s0 :: s1 :: s2 :: s3 :: s4 :: s5 :: some (.sh n d) :: r) h kE = kE (s0 :: s1 :: s2 :: s3 :: s4 :: s5 :: some (.sh n d) :: r) (.sh n d) := id rfl
@[simp ↓] theorem eO_6 {s0 s1 s2 s3 s4 s5 : Option Sl} : cE (fVar 6) (s0 :: s1 :: s2 :: s3 :: s4 :: s5 :: some (.ow n ds) :: r) h kE = kE (s0 :: s1 :: s2 :: s3 :: s4 :: s5 :: some (.ow n ds) :: r) (.own 6) := id rfl
@[simp ↓] theorem eSl_6 {s0 s1 s2 s3 s4 s5 : Option Sl} : cE (fVar 6) (lent (s0 :: s1 :: s2 :: s3 :: s4 :: s5 :: some (.sh n d) :: r)) h kE = kE (lent (s0 :: s1 :: s2 :: s3 :: s4 :: s5 :: some (.sh n d) :: r)) (.sh n d) := id rfl
@[simp ↓] theorem eOl_6 {s0 s1 s2 s3 s4 s5 : Option Sl} : cE (fVar 6) (lent (s0 :: s1 :: s2 :: s3 :: s4 :: s5 :: some (.ow n ds) :: r)) h kE = kE (lent (s0 :: s1 :: s2 :: s3 :: s4 :: s5 :: some (.ow n ds) :: r)) (.sh n (.list ds)) := id rfl
@[simp ↓] theorem vS_6 {s0 s1 s2 s3 s4 s5 : Option Sl} : cV (rd (fVar 6)) (s0 :: s1 :: s2 :: s3 :: s4 :: s5 :: some (.sh n d) :: r) h kV = kV (s0 :: s1 :: s2 :: s3 :: s4 :: s5 :: some (.sh n d) :: r) n d := id rfl
@[simp ↓] theorem vO_6 {s0 s1 s2 s3 s4 s5 : Option Sl} : cV (rd (fVar 6)) (s0 :: s1 :: s2 :: s3 :: s4 :: s5 :: some (.ow n ds) :: r) h kV = kV (s0 :: s1 :: s2 :: s3 :: s4 :: s5 :: some (.ow n ds) :: r) n (.list ds) := id rfl
@[simp ↓] theorem vSl_6 {s0 s1 s2 s3 s4 s5 : Option Sl} : cV (rd (fVar 6)) (lent (s0 :: s1 :: s2 :: s3 :: s4 :: s5 :: some (.sh n d) :: r)) h kV = kV (lent (s0 :: s1 :: s2 :: s3 :: s4 :: s5 :: some (.sh n d) :: r)) n d := id rfl
@[simp ↓] theorem vOl_6 {s0 s1 s2 s3 s4 s5 : Option Sl} : cV (rd (fVar 6)) (lent (s0 :: s1 :: s2 :: s3 :: s4 :: s5 :: some (.ow n ds) :: r)) h kV = kV (lent (s0 :: s1 :: s2 :: s3 :: s4 :: s5 :: some (.ow n ds) :: r)) n (.list ds) := id rfl
@[simp ↓] theorem kS_6 {s0 s1 s2 s3 s4 s5 : Option Sl} : cV (st (fVar 6)) (s0 :: s1 :: s2 :: s3 :: s4 :: s5 :: some (.sh n d) :: r) h kV = kV (s0 :: s1 :: s2 :: s3 :: s4 :: s5 :: some (.sh n d) :: r) n d := id rfl
@[simp ↓] theorem kO_6 {s0 s1 s2 s3 s4 s5 : Option Sl} : cV (st (fVar 6)) (s0 :: s1 :: s2 :: s3 :: s4 :: s5 :: some (.ow n ds) :: r) h kV = kV (s0 :: s1 :: s2 :: s3 :: s4 :: s5 :: some (.sh n (.list ds)) :: r) n (.list ds) := id rfl
@[simp ↓] theorem kSl_6 {s0 s1 s2 s3 s4 s5 : Option Sl} : cV (st (fVar 6)) (lent (s0 :: s1 :: s2 :: s3 :: s4 :: s5 :: some (.sh n d) :: r)) h kV = kV (lent (s0 :: s1 :: s2 :: s3 :: s4 :: s5 :: some (.sh n d) :: r)) n d := id rfl
@[simp ↓] theorem kOl_6 {s0 s1 s2 s3 s4 s5 : Option Sl} : cV (st (fVar 6)) (lent (s0 :: s1 :: s2 :: s3 :: s4 :: s5 :: some (.ow n ds) :: r)) h kV = kV (lent (s0 :: s1 :: s2 :: s3 :: s4 :: s5 :: some (.sh n (.list ds)) :: r)) n (.list ds) := id rfl
@[simp ↓] theorem p_6 {s0 s1 s2 s3 s4 s5 : Option Sl} : cP 6 (s0 :: s1 :: s2 :: s3 :: s4 :: s5 :: x :: r) y kP = kP (s0 :: s1 :: s2 :: s3 :: s4 :: s5 :: y :: r) := id rfl
@[simp ↓] theorem rO_6 {s0 s1 s2 s3 s4 s5 : Option Sl} : reK (s0 :: s1 :: s2 :: s3 :: s4 :: s5 :: some (.ow n ds) :: r) (.own 6) h kO = kO (.rt (.nw n ds)) := id rfl
@[simp ↓] theorem iO_6 {s0 s1 s2 s3 s4 s5 : Option Sl} {z : Rs β} : grd (isOw (gt (s0 :: s1 :: s2 :: s3 :: s4 :: s5 :: some (.ow n ds) :: r) 6)) z = z := id rfl
@[simp ↓] theorem rdO_6 {s0 s1 s2 s3 s4 s5 : Option Sl} : rdK (s0 :: s1 :: s2 :: s3 :: s4 :: s5 :: some (.ow n ds) :: r) (.own 6) h kV = kV (s0 :: s1 :: s2 :: s3 :: s4 :: s5 :: some (.ow n ds) :: r) n (.list ds) := id rfl
@[simp ↓] theorem stO_6 {s0 s1 s2 s3 s4 s5 : Option Sl} : stK (s0 :: s1 :: s2 :: s3 :: s4 :: s5 :: some (.ow n ds) :: r) (.own 6) h kV = kV (s0 :: s1 :: s2 :: s3 :: s4 :: s5 :: some (.sh n (.list ds)) :: r) n (.list ds) := id rfl
@[simp ↓] theorem pO_6 {s0 s1 s2 s3 s4 s5 : Option Sl} {i : Nat} : puK i (s0 :: s1 :: s2 :: s3 :: s4 :: s5 :: some (.ow n ds) :: r) (.own 6) h kP = cP i (s0 :: s1 :: s2 :: s3 :: s4 :: s5 :: some (.sh n (.list ds)) :: r) (some (.sh n (.list ds))) kP := id rfl
@[simp ↓ low] theorem aO_6 {s0 s1 s2 s3 s4 s5 : Option Sl} : apK 6 (s0 :: s1 :: s2 :: s3 :: s4 :: s5 :: some (.ow n ds) :: r) m d h kO = grd (decide (ds.length < 1000000)) (kO (.nx (s0 :: s1 :: s2 :: s3 :: s4 :: s5 :: some (.ow (n && m) (ds ++ [d])) :: r))) := by
  exact on_grd _ _ _ _
@[simp ↓ low] theorem sO_6 {s0 s1 s2 s3 s4 s5 : Option Sl} (z : 0 ≤ j ∧ j < ds.length) : siK 6 (s0 :: s1 :: s2 :: s3 :: s4 :: s5 :: some (.ow n ds) :: r) m d (.int j) h kO = kO (.nx (s0 :: s1 :: s2 :: s3 :: s4 :: s5 :: some (.ow (n && m) (ds.set j.toNat d)) :: r)) := by
  unfold siK; rw [show gt (s0 :: s1 :: s2 :: s3 :: s4 :: s5 :: some (.ow n ds) :: r) 6 = some (.ow n ds) from rfl, setS_ow, ixN_in z]; rfl
@[simp ↓] theorem aOm_6 {s0 s1 s2 s3 s4 s5 : Option Sl} : apK 6 (s0 :: s1 :: s2 :: s3 :: s4 :: s5 :: some (.ow n (xs.map c)) :: r) m (c z) h kO = grd (decide (xs.length < 1000000)) (kO (.nx (s0 :: s1 :: s2 :: s3 :: s4 :: s5 :: some (.ow (n && m) ((xs ++ [z]).map c)) :: r))) := by
  rw [aO_6, List.length_map, map_snoc]
@[simp ↓] theorem sOm_6 {s0 s1 s2 s3 s4 s5 : Option Sl} (q : 0 ≤ j ∧ j < xs.length) : siK 6 (s0 :: s1 :: s2 :: s3 :: s4 :: s5 :: some (.ow n (xs.map c)) :: r) m (c z) (.int j) h kO = kO (.nx (s0 :: s1 :: s2 :: s3 :: s4 :: s5 :: some (.ow (n && m) ((ist xs j z).map c)) :: r)) := by
  rw [sO_6 (by rw [List.length_map]; exact q), map_set]; rfl
@[simp ↓] theorem eS_7 {s0 s1 s2 s3 s4 s5 s6 : Option Sl} : cE (fVar 7) (s0 :: s1 :: s2 :: s3 :: s4 :: s5 :: s6 :: some (.sh n d) :: r) h kE = kE (s0 :: s1 :: s2 :: s3 :: s4 :: s5 :: s6 :: some (.sh n d) :: r) (.sh n d) := id rfl
@[simp ↓] theorem eO_7 {s0 s1 s2 s3 s4 s5 s6 : Option Sl} : cE (fVar 7) (s0 :: s1 :: s2 :: s3 :: s4 :: s5 :: s6 :: some (.ow n ds) :: r) h kE = kE (s0 :: s1 :: s2 :: s3 :: s4 :: s5 :: s6 :: some (.ow n ds) :: r) (.own 7) := id rfl
@[simp ↓] theorem eSl_7 {s0 s1 s2 s3 s4 s5 s6 : Option Sl} : cE (fVar 7) (lent (s0 :: s1 :: s2 :: s3 :: s4 :: s5 :: s6 :: some (.sh n d) :: r)) h kE = kE (lent (s0 :: s1 :: s2 :: s3 :: s4 :: s5 :: s6 :: some (.sh n d) :: r)) (.sh n d) := id rfl
@[simp ↓] theorem eOl_7 {s0 s1 s2 s3 s4 s5 s6 : Option Sl} : cE (fVar 7) (lent (s0 :: s1 :: s2 :: s3 :: s4 :: s5 :: s6 :: some (.ow n ds) :: r)) h kE = kE (lent (s0 :: s1 :: s2 :: s3 :: s4 :: s5 :: s6 :: some (.ow n ds) :: r)) (.sh n (.list ds)) := id rfl
@[simp ↓] theorem vS_7 {s0 s1 s2 s3 s4 s5 s6 : Option Sl} : cV (rd (fVar 7)) (s0 :: s1 :: s2 :: s3 :: s4 :: s5 :: s6 :: some (.sh n d) :: r) h kV = kV (s0 :: s1 :: s2 :: s3 :: s4 :: s5 :: s6 :: some (.sh n d) :: r) n d := id rfl
@[simp ↓] theorem vO_7 {s0 s1 s2 s3 s4 s5 s6 : Option Sl} : cV (rd (fVar 7)) (s0 :: s1 :: s2 :: s3 :: s4 :: s5 :: s6 :: some (.ow n ds) :: r) h kV = kV (s0 :: s1 :: s2 :: s3 :: s4 :: s5 :: s6 :: some (.ow n ds) :: r) n (.list ds) := id rfl
@[simp ↓] theorem vSl_7 {s0 s1 s2 s3 s4 s5 s6 : Option Sl} : cV (rd (fVar 7)) (lent (s0 :: s1 :: s2 :: s3 :: s4 :: s5 :: s6 :: some (.sh n d) :: r)) h kV = kV (lent (s0 :: s1 :: s2 :: s3 :: s4 :: s5 :: s6 :: some (.sh n d) :: r)) n d := id rfl
@[simp ↓] theorem vOl_7 {s0 s1 s2 s3 s4 s5 s6 : Option Sl} : cV (rd (fVar 7)) (lent (s0 :: s1 :: s2 :: s3 :: s4 :: s5 :: s6 :: some (.ow n ds) :: r)) h kV = kV (lent (s0 :: s1 :: s2 :: s3 :: s4 :: s5 :: s6 :: some (.ow n ds) :: r)) n (.list ds) := id rfl
@[simp ↓] theorem kS_7 {s0 s1 s2 s3 s4 s5 s6 : Option Sl} : cV (st (fVar 7)) (s0 :: s1 :: s2 :: s3 :: s4 :: s5 :: s6 :: some (.sh n d) :: r) h kV = kV (s0 :: s1 :: s2 :: s3 :: s4 :: s5 :: s6 :: some (.sh n d) :: r) n d := id rfl
@[simp ↓] theorem kO_7 {s0 s1 s2 s3 s4 s5 s6 : Option Sl} : cV (st (fVar 7)) (s0 :: s1 :: s2 :: s3 :: s4 :: s5 :: s6 :: some (.ow n ds) :: r) h kV = kV (s0 :: s1 :: s2 :: s3 :: s4 :: s5 :: s6 :: some (.sh n (.list ds)) :: r) n (.list ds) := id rfl
@[simp ↓] theorem kSl_7 {s0 s1 s2 s3 s4 s5 s6 : Option Sl} : cV (st (fVar 7)) (lent (s0 :: s1 :: s2 :: s3 :: s4 :: s5 :: s6 :: some (.sh n d) :: r)) h kV = kV (lent (s0 :: s1 :: s2 :: s3 :: s4 :: s5 :: s6 :: some (.sh n d) :: r)) n d := id rfl
@[simp ↓] theorem kOl_7 {s0 s1 s2 s3 s4 s5 s6 : Option Sl} : cV (st (fVar 7)) (lent (s0 :: s1 :: s2 :: s3 :: s4 :: s5 :: s6 :: some (.ow n ds) :: r)) h kV = kV (lent (s0 :: s1 :: s2 :: s3 :: s4 :: s5 :: s6 :: some (.sh n (.list ds)) :: r)) n (.list ds) := id rfl
@[simp ↓] theorem p_7 {s0 s1 s2 s3 s4 s5 s6 : Option Sl} : cP 7 (s0 :: s1 :: s2 :: s3 :: s4 :: s5 :: s6 :: x :: r) y kP = kP (s0 :: s1 :: s2 :: s3 :: s4 :: s5 :: s6 :: y :: r) := id rfl
@[simp ↓] theorem rO_7 {s0 s1 s2 s3 s4 s5 s6 : Option Sl} : reK (s0 :: s1 :: s2 :: s3 :: s4 :: s5 :: s6 :: some (.ow n ds) :: r) (.own 7) h kO = kO (.rt (.nw n ds)) := id rfl
@[simp ↓] theorem iO_7 {s0 s1 s2 s3 s4 s5 s6 : Option Sl} {z : Rs β} : grd (isOw (gt (s0 :: s1 :: s2 :: s3 :: s4 :: s5 :: s6 :: some (.ow n ds) :: r) 7)) z = z := id rfl
@[simp ↓] theorem rdO_7 {s0 s1 s2 s3 s4 s5 s6 : Option Sl} : rdK (s0 :: s1 :: s2 :: s3 :: s4 :: s5 :: s6 :: some (.ow n ds) :: r) (.own 7) h kV = kV (s0 :: s1 :: s2 :: s3 :: s4 :: s5 :: s6 :: some (.ow n ds) :: r) n (.list ds) := id rfl
@[simp ↓] theorem stO_7 {s0 s1 s2 s3 s4 s5 s6 : Option Sl} : stK (s0 :: s1 :: s2 :: s3 :: s4 :: s5 :: s6 :: some (.ow n ds) :: r) (.own 7) h kV = kV (s0 :: s1 :: s2 :: s3 :: s4 :: s5 :: s6 :: some (.sh n (.list ds)) :: r) n (.list ds) := id rfl
@[simp ↓] theorem pO_7 {s0 s1 s2 s3 s4 s5 s6 : Option Sl} {i : Nat} : puK i (s0 :: s1 :: s2 :: s3 :: s4 :: s5 :: s6 :: some (.ow n ds) :: r) (.own 7) h kP = cP i (s0 :: s1 :: s2 :: s3 :: s4 :: s5 :: s6 :: some (.sh n (.list ds)) :: r) (some (.sh n (.list ds))) kP := id rfl
@[simp ↓ low] theorem aO_7 {s0 s1 s2 s3 s4 s5 s6 : Option Sl} : apK 7 (s0 :: s1 :: s2 :: s3 :: s4 :: s5 :: s6 :: some (.ow n ds) :: r) m d h kO = grd (decide (ds.length < 1000000)) (kO (.nx (s0 :: s1 :: s2 :: s3 :: s4 :: s5 :: s6 :: some (.ow (n && m) (ds ++ [d])) :: r))) := by
  exact on_grd _ _ _ _
@[simp ↓ low] theorem sO_7 {s0 s1 s2 s3 s4 s5 s6 : Option Sl} (z : 0 ≤ j ∧ j < ds.length) : siK 7 (s0 :: s1 :: s2 :: s3 :: s4 :: s5 :: s6 :: some (.ow n ds) :: r) m d (.int j) h kO = kO (.nx (s0 :: s1 :: s2 :: s3 :: s4 :: s5 :: s6 :: some (.ow (n && m) (ds.set j.toNat d)) :: r)) := by
  unfold siK; rw [show gt (s0 :: s1 :: s2 :: s3 :: s4 :: s5 :: s6 :: some (.ow n ds) :: r) 7 = some (.ow n ds) from rfl, setS_ow, ixN_in z]; rfl
@[simp ↓] theorem aOm_7 {s0 s1 s2 s3 s4 s5 s6 : Option Sl} : apK 7 (s0 :: s1 :: s2 :: s3 :: s4 :: s5 :: s6 :: some (.ow n (xs.map c)) :: r) m (c z) h kO = grd (decide (xs.length < 1000000)) (kO (.nx (s0 :: s1 :: s2 :: s3 :: s4 :: s5 :: s6 :: some (.ow (n && m) ((xs ++ [z]).map c)) :: r))) := by
  rw [aO_7, List.length_map, map_snoc]
@[simp ↓] theorem sOm_7 {s0 s1 s2 s3 s4 s5 s6 : Option Sl} (q : 0 ≤ j ∧ j < xs.length) : siK 7 (s0 :: s1 :: s2 :: s3 :: s4 :: s5 :: s6 :: some (.ow n (xs.map c)) :: r) m (c z) (.int j) h kO = kO (.nx (s0 :: s1 :: s2 :: s3 :: s4 :: s5 :: s6 :: some (.ow (n && m) ((ist xs j z).map c)) :: r)) := by
  rw [sO_7 (by rw [List.length_map]; exact q), map_set]; rfl
@[simp ↓] theorem eS_8 {s0 s1 s2 s3 s4 s5 s6 s7 : Option Sl} : cE (fVar 8) (s0 :: s1 :: s2 :: s3 :: s4 :: s5 :: s6 :: s7 :: some (.sh n d) :: r) h kE = kE (s0 :: s1 :: s2 :: s3 :: s4 :: s5 :: s6 :: s7 :: some (.sh n d) :: r) (.sh n d) := id rfl
@[simp ↓] theorem eO_8 {s0 s1 s2 s3 s4 s5 s6 s7 : Option Sl} : cE (fVar 8) (s0 :: s1 :: s2 :: s3 :: s4 :: s5 :: s6 :: s7 :: some (.ow n ds) :: r) h kE = kE (s0 :: s1 :: s2 :: s3 :: s4 :: s5 :: s6 :: s7 :: some (.ow n ds) :: r) (.own 8) := id rfl
@[simp ↓] theorem eSl_8 {s0 s1 s2 s3 s4 s5 s6 s7 : Option Sl} : cE (fVar 8) (lent (s0 :: s1 :: s2 :: s3 :: s4 :: s5 :: s6 :: s7 :: some (.sh n d) :: r)) h kE = kE (lent (s0 :: s1 :: s2 :: s3 :: s4 :: s5 :: s6 :: s7 :: some (.sh n d) :: r)) (.sh n d) := id rfl
@[simp ↓] theorem eOl_8 {s0 s1 s2 s3 s4 s5 s6 s7 : Option Sl} : cE (fVar 8) (lent (s0 :: s1 :: s2 :: s3 :: s4 :: s5 :: s6 :: s7 :: some (.ow n ds) :: r)) h kE = kE (lent (s0 :: s1 :: s2 :: s3 :: s4 :: s5 :: s6 :: s7 :: some (.ow n ds) :: r)) (.sh n (.list ds)) := id rfl
@[simp ↓] theorem vS_8 {s0 s1 s2 s3 s4 s5 s6 s7 : Option Sl} : cV (rd (fVar 8)) (s0 :: s1 :: s2 :: s3 :: s4 :: s5 :: s6 :: s7 :: some (.sh n d) :: r) h kV = kV (s0 :: s1 :: s2 :: s3 :: s4 :: s5 :: s6 :: s7 :: some (.sh n d) :: r) n d := id rfl
@[simp ↓] theorem vO_8 {s0 s1 s2 s3 s4 s5 s6 s7 : Option Sl} : cV (rd (fVar 8)) (s0 :: s1 :: s2 :: s3 :: s4 :: s5 :: s6 :: s7 :: some (.ow n ds) :: r) h kV = kV (s0 :: s1 :: s2 :: s3 :: s4 :: s5 :: s6 :: s7 :: some (.ow n ds) :: r) n (.list ds) := id rfl
@[simp ↓] theorem vSl_8 {s0 s1 s2 s3 s4 s5 s6 s7 : Option Sl} : cV (rd (fVar 8)) (lent (s0 :: s1 :: s2 :: s3 :: s4 :: s5 :: s6 :: s7 :: some (.sh n d) :: r)) h kV = kV (lent (s0 :: s1 :: s2 :: s3 :: s4 :: s5 :: s6 :: s7 :: some (.sh n d) :: r)) n d := id rfl
@[simp ↓] theorem vOl_8 {s0 s1 s2 s3 s4 s5 s6 s7 : Option Sl} : cV (rd (fVar 8)) (lent (s0 :: s1 :: s2 :: s3 :: s4 :: s5 :: s6 :: s7 :: some (.ow n ds) :: r)) h kV = kV (lent (s0 :: s1 :: s2 :: s3 :: s4 :: s5 :: s6 :: s7 :: some (.ow n ds) :: r)) n (.list ds) := id rfl
@[simp ↓] theorem kS_8 {s0 s1 s2 s3 s4 s5 s6 s7 : Option Sl} : cV (st (fVar 8)) (s0 :: s1 :: s2 :: s3 :: s4 :: s5 :: s6 :: s7 :: some (.sh n d) :: r) h kV = kV (s0 :: s1 :: s2 :: s3 :: s4 :: s5 :: s6 :: s7 :: some (.sh n d) :: r) n d := id rfl
@[simp ↓] theorem kO_8 {s0 s1 s2 s3 s4 s5 s6 s7 : Option Sl} : cV (st (fVar 8)) (s0 :: s1 :: s2 :: s3 :: s4 :: s5 :: s6 :: s7 :: some (.ow n ds) :: r) h kV = kV (s0 :: s1 :: s2 :: s3 :: s4 :: s5 :: s6 :: s7 :: some (.sh n (.list ds)) :: r) n (.list ds) := id rfl
@[simp ↓] theorem kSl_8 {s0 s1 s2 s3 s4 s5 s6 s7 : Option Sl} : cV (st (fVar 8)) (lent (s0 :: s1 :: s2 :: s3 :: s4 :: s5 :: s6 :: s7 :: some (.sh n d) :: r)) h kV = kV (lent (s0 :: s1 :: s2 :: s3 :: s4 :: s5 :: s6 :: s7 :: some (.sh n d) :: r)) n d := id rfl
@[simp ↓] theorem kOl_8 {s0 s1 s2 s3 s4 s5 s6 s7 : Option Sl} : cV (st (fVar 8)) (lent (s0 :: s1 :: s2 :: s3 :: s4 :: s5 :: s6 :: s7 :: some (.ow n ds) :: r)) h kV = kV (lent (s0 :: s1 :: s2 :: s3 :: s4 :: s5 :: s6 :: s7 :: some (.sh n (.list ds)) :: r)) n (.list ds) := id rfl
@[simp ↓] theorem p_8 {s0 s1 s2 s3 s4 s5 s6 s7 : Option Sl} : cP 8 (s0 :: s1 :: s2 :: s3 :: s4 :: s5 :: s6 :: s7 :: x :: r) y kP = kP (s0 :: s1 :: s2 :: s3 :: s4 :: s5 :: s6 :: s7 :: y :: r) := id rfl
@[simp ↓] theorem rO_8 {s0 s1 s2 s3 s4 s5 s6 s7 : Option Sl} : reK (s0 :: s1 :: s2 :: s3 :: s4 :: s5 :: s6 :: s7 :: some (.ow n ds) :: r) (.own 8) h kO = kO (.rt (.nw n ds)) := id rfl
@[simp ↓] theorem iO_8 {s0 s1 s2 s3 s4 s5 s6 s7 : Option Sl} {z : Rs β} : grd (isOw (gt (s0 :: s1 :: s2 :: s3 :: s4 :: s5 :: s6 :: s7 :: some (.ow n ds) :: r) 8)) z = z := id rfl
@[simp ↓] theorem rdO_8 {s0 s1 s2 s3 s4 s5 s6 s7 : Option Sl} : rdK (s0 :: s1 :: s2 :: s3 :: s4 :: s5 :: s6 :: s7 :: some (.ow n ds) :: r) (.own 8) h kV = kV (s0 :: s1 :: s2 :: s3 :: s4 :: s5 :: s6 :: s7 :: some (.ow n ds) :: r) n (.list ds) := id rfl
@[simp ↓] theorem stO_8 {s0 s1 s2 s3 s4 s5 s6 s7 : Option Sl} : stK (s0 :: s1 :: s2 :: s3 :: s4 :: s5 :: s6 :: s7 :: some (.ow n ds) :: r) (.own 8) h kV = kV (s0 :: s1 :: s2 :: s3 :: s4 :: s5 :: s6 :: s7 :: some (.sh n (.list ds)) :: r) n (.list ds) := id rfl
@[simp ↓] theorem pO_8 {s0 s1 s2 s3 s4 s5 s6 s7 : Option Sl} {i : Nat} : puK i (s0 :: s1 :: s2 :: s3 :: s4 :: s5 :: s6 :: s7 :: some (.ow n ds) :: r) (.own 8) h kP = cP i (s0 :: s1 :: s2 :: s3 :: s4 :: s5 :: s6 :: s7 :: some (.sh n (.list ds)) :: r) (some (.sh n (.list ds))) kP := id rfl
@[simp ↓ low] theorem aO_8 {s0 s1 s2 s3 s4 s5 s6 s7 : Option Sl} : apK 8 (s0 :: s1 :: s2 :: s3 :: s4 :: s5 :: s6 :: s7 :: some (.ow n ds) :: r) m d h kO = grd (decide (ds.length < 1000000)) (kO (.nx (s0 :: s1 :: s2 :: s3 :: s4 :: s5 :: s6 :: s7 :: some (.ow (n && m) (ds ++ [d])) :: r))) := by
  exact on_grd _ _ _ _
@[simp ↓ low] theorem sO_8 {s0 s1 s2 s3 s4 s5 s6 s7 : Option Sl} (z : 0 ≤ j ∧ j < ds.length) : siK 8 (s0 :: s1 :: s2 :: s3 :: s4 :: s5 :: s6 :: s7 :: some (.ow n ds) :: r) m d (.int j) h kO = kO (.nx (s0 :: s1 :: s2 :: s3 :: s4 :: s5 :: s6 :: s7 :: some (.ow (n && m) (ds.set j.toNat d)) :: r)) := by
  unfold siK; rw [show gt (s0 :: s1 :: s2 :: s3 :: s4 :: s5 :: s6 :: s7 :: some (.ow n ds) :: r) 8 = some (.ow n ds) from rfl, setS_ow, ixN_in z]; rfl
@[simp ↓] theorem aOm_8 {s0 s1 s2 s3 s4 s5 s6 s7 : Option Sl} : apK 8 (s0 :: s1 :: s2 :: s3 :: s4 :: s5 :: s6 :: s7 :: some (.ow n (xs.map c)) :: r) m (c z) h kO = grd (decide (xs.length < 1000000)) (kO (.nx (s0 :: s1 :: s2 :: s3 :: s4 :: s5 :: s6 :: s7 :: some (.ow (n && m) ((xs ++ [z]).map c)) :: r))) := by
  rw [aO_8, List.length_map, map_snoc]
@[simp ↓] theorem sOm_8 {s0 s1 s2 s3 s4 s5 s6 s7 : Option Sl} (q : 0 ≤ j ∧ j < xs.length) : siK 8 (s0 :: s1 :: s2 :: s3 :: s4 :: s5 :: s6 :: s7 :: some (.ow n (xs.map c)) :: r) m (c z) (.int j) h kO = kO (.nx (s0 :: s1 :: s2 :: s3 :: s4 :: s5 :: s6 :: s7 :: some (.ow (n && m) ((ist xs j z).map c)) :: r)) := by
  rw [sO_8 (by rw [List.length_map]; exact q), map_set]; rfl
@[simp ↓] theorem eS_9 {s0 s1 s2 s3 s4 s5 s6 s7 s8 : Option Sl} : cE (fVar 9) (s0 :: s1 :: s2 :: s3 :: s4 :: s5 :: s6 :: s7 :: s8 :: some (.sh n d) :: r) h kE = kE (s0 :: s1 :: s2 :: s3 :: s4 :: s5 :: s6 :: s7 :: s8 :: some (.sh n d) :: r) (.sh n d) := id rfl
@[simp ↓] theorem eO_9 {s0 s1 s2 s3 s4 s5 s6 s7 s8 : Option Sl} : cE (fVar 9) (s0 :: s1 :: s2 :: s3 :: s4 :: s5 :: s6 :: s7 :: s8 :: some (.ow n ds) :: r) h kE = kE (s0 :: s1 :: s2 :: s3 :: s4 :: s5 :: s6 :: s7 :: s8 :: some (.ow n ds) :: r) (.own 9) := id rfl
@[simp ↓] theorem eSl_9 {s0 s1 s2 s3 s4 s5 s6 s7 s8 : Option Sl} : cE (fVar 9) (lent (s0 :: s1 :: s2 :: s3 :: s4 :: s5 :: s6 :: s7 :: s8 :: some (.sh n d) :: r)) h kE = kE (lent (s0 :: s1 :: s2 :: s3 :: s4 :: s5 :: s6 :: s7 :: s8 :: some (.sh n d) :: r)) (.sh n d) := id rfl
@[simp ↓] theorem eOl_9 {s0 s1 s2 s3 s4 s5 s6 s7 s8 : Option Sl} : cE (fVar 9) (lent (s0 :: s1 :: s2 :: s3 :: s4 :: s5 :: s6 :: s7 :: s8 :: some (.ow n ds) :: r)) h kE = kE (lent (s0 :: s1 :: s2 :: s3 :: s4 :: s5 :: s6 :: s7 :: s8 :: some (.ow n ds) :: r)) (.sh n (.list ds)) := id rfl
@[simp ↓] theorem vS_9 {s0 s1 s2 s3 s4 s5 s6 s7 s8 : Option Sl} : cV (rd (fVar 9)) (s0 :: s1 :: s2 :: s3 :: s4 :: s5 :: s6 :: s7 :: s8 :: some (.sh n d) :: r) h kV = kV (s0 :: s1 :: s2 :: s3 :: s4 :: s5 :: s6 :: s7 :: s8 :: some (.sh n d) :: r) n d := id rfl
@[simp ↓] theorem vO_9 {s0 s1 s2 s3 s4 s5 s6 s7 s8 : Option Sl} : cV (rd (fVar 9)) (s0 :: s1 :: s2 :: s3 :: s4 :: s5 :: s6 :: s7 :: s8 :: some (.ow n ds) :: r) h kV = kV (s0 :: s1 :: s2 :: s3 :: s4 :: s5 :: s6 :: s7 :: s8 :: some (.ow n ds) :: r) n (.list ds) := id rfl
@[simp ↓] theorem vSl_9 {s0 s1 s2 s3 s4 s5 s6 s7 s8 : Option Sl} : cV (rd (fVar 9)) (lent (s0 :: s1 :: s2 :: s3 :: s4 :: s5 :: s6 :: s7 :: s8 :: some (.sh n d) :: r)) h kV = kV (lent (s0 :: s1 :: s2 :: s3 :: s4 :: s5 :: s6 :: s7 :: s8 :: some (.sh n d) :: r)) n d := id rfl
@[simp ↓] theorem vOl_9 {s0 s1 s2 s3 s4 s5 s6 s7 s8 : Option Sl} : cV (rd (fVar 9)) (lent (s0 :: s1 :: s2 :: s3 :: s4 :: s5 :: s6 :: s7 :: s8 :: some (.ow n ds) :: r)) h kV = kV (lent (s0 :: s1 :: s2 :: s3 :: s4 :: s5 :: s6 :: s7 :: s8 :: some (.ow n ds) :: r)) n (.list ds) := id rfl
@[simp ↓] theorem kS_9 {s0 s1 s2 s3 s4 s5 s6 s7 s8 : Option Sl} : cV (st (fVar 9)) (s0 :: s1 :: s2 :: s3 :: s4 :: s5 :: s6 :: s7 :: s8 :: some (.sh n d) :: r) h kV = kV (s0 :: s1 :: s2 :: s3 :: s4 :: s5 :: s6 :: s7 :: s8 :: some (.sh n d) :: r) n d := id rfl
@[simp ↓] theorem kO_9 {s0 s1 s2 s3 s4 s5 s6 s7 s8 : Option Sl} : cV (st (fVar 9)) (s0 :: s1 :: s2 :: s3 :: s4 :: s5 :: s6 :: s7 :: s8 :: some (.ow n ds) :: r) h kV = kV (s0 :: s1 :: s2 :: s3 :: s4 :: s5 :: s6 :: s7 :: s8 :: some (.sh n (.list ds)) :: r) n (.list ds) := id rfl
@[simp ↓] theorem kSl_9 {s0 s1 s2 s3 s4 s5 s6 s7 s8 : Option Sl} : cV (st (fVar 9)) (lent (s0 :: s1 :: s2 :: s3 :: s4 :: s5 :: s6 :: s7 :: s8 :: some (.sh n d) :: r)) h kV = kV (lent (s0 :: s1 :: s2 :: s3 :: s4 :: s5 :: s6 :: s7 :: s8 :: some (.sh n d) :: r)) n d := id rfl
@[simp ↓] theorem kOl_9 {s0 s1 s2 s3 s4 s5 s6 s7 s8 : Option Sl} : cV (st (fVar 9)) (lent (s0 :: s1 :: s2 :: s3 :: s4 :: s5 :: s6 :: s7 :: s8 :: some (.ow n ds) :: r)) h kV = kV (lent (s0 :: s1 :: s2 :: s3 :: s4 :: s5 :: s6 :: s7 :: s8 :: some (.sh n (.list ds)) :: r)) n (.list ds) := id rfl
@[simp ↓] theorem p_9 {s0 s1 s2 s3 s4 s5 s6 s7 s8 : Option Sl} : cP 9 (s0 :: s1 :: s2 :: s3 :: s4 :: s5 :: s6 :: s7 :: s8 :: x :: r) y kP = kP (s0 :: s1 :: s2 :: s3 :: s4 :: s5 :: s6 :: s7 :: s8 :: y :: r) := id rfl
@[simp ↓] theorem rO_9 {s0 s1 s2 s3 s4 s5 s6 s7 s8 : Option Sl} : reK (s0 :: s1 :: s2 :: s3 :: s4 :: s5 :: s6 :: s7 :: s8 :: some (.ow n ds) :: r) (.own 9) h kO = kO (.rt (.nw n ds)) := id rfl
@[simp ↓] theorem iO_9 {s0 s1 s2 s3 s4 s5 s6 s7 s8 : Option Sl} {z : Rs β} : grd (isOw (gt (s0 :: s1 :: s2 :: s3 :: s4 :: s5 :: s6 :: s7 :: s8 :: some (.ow n ds) :: r) 9)) z = z := id rfl
@[simp ↓] theorem rdO_9 {s0 s1 s2 s3 s4 s5 s6 s7 s8 : Option Sl} : rdK (s0 :: s1 :: s2 :: s3 :: s4 :: s5 :: s6 :: s7 :: s8 :: some (.ow n ds) :: r) (.own 9) h kV = kV (s0 :: s1 :: s2 :: s3 :: s4 :: s5 :: s6 :: s7 :: s8 :: some (.ow n ds) :: r) n (.list ds) := id rfl
@[simp ↓] theorem stO_9 {s0 s1 s2 s3 s4 s5 s6 s7 s8 : Option Sl} : stK (s0 :: s1 :: s2 :: s3 :: s4 :: s5 :: s6 :: s7 :: s8 :: some (.ow n ds) :: r) (.own 9) h kV = kV (s0 :: s1 :: s2 :: s3 :: s4 :: s5 :: s6 :: s7 :: s8 :: some (.sh n (.list ds)) :: r) n (.list ds) := id rfl
@[simp ↓] theorem pO_9 {s0 s1 s2 s3 s4 s5 s6 s7 s8 : Option Sl} {i : Nat} : puK i (s0 :: s1 :: s2 :: s3 :: s4 :: s5 :: s6 :: s7 :: s8 :: some (.ow n ds) :: r) (.own 9) h kP = cP i (s0 :: s1 :: s2 :: s3 :: s4 :: s5 :: s6 :: s7 :: s8 :: some (.sh n (.list ds)) :: r) (some (.sh n (.list ds))) kP := id rfl
@[simp ↓ low] theorem aO_9 {s0 s1 s2 s3 s4 s5 s6 s7 s8 : Option Sl} : apK 9 (s0 :: s1 :: s2 :: s3 :: s4 :: s5 :: s6 :: s7 :: s8 :: some (.ow n ds) :: r) m d h kO = grd (decide (ds.length < 1000000)) (kO (.nx (s0 :: s1 :: s2 :: s3 :: s4 :: s5 :: s6 :: s7 :: s8 :: some (.ow (n && m) (ds ++ [d])) :: r))) := by
  exact on_grd _ _ _ _
@[simp ↓ low] theorem sO_9 {s0 s1 s2 s3 s4 s5 s6 s7 s8 : Option Sl} (z : 0 ≤ j ∧ j < ds.length) : siK 9 (s0 :: s1 :: s2 :: s3 :: s4 :: s5 :: s6 :: s7 :: s8 :: some (.ow n ds) :: r) m d (.int j) h kO = kO (.nx (s0 :: s1 :: s2 :: s3 :: s4 :: s5 :: s6 :: s7 :: s8 :: some (.ow (n && m) (ds.set j.toNat d)) :: r)) := by
  unfold siK; rw [show gt (s0 :: s1 :: s2 :: s3 :: s4 :: s5 :: s6 :: s7 :: s8 :: some (.ow n ds) :: r) 9 = some (.ow n ds) from rfl, setS_ow, ixN_in z]; rfl
@[simp ↓] theorem aOm_9 {s0 s1 s2 s3 s4 s5 s6 s7 s8 : Option Sl} : apK 9 (s0 :: s1 :: s2 :: s3 :: s4 :: s5 :: s6 :: s7 :: s8 :: some (.ow n (xs.map c)) :: r) m (c z) h kO = grd (decide (xs.length < 1000000)) (kO (.nx (s0 :: s1 :: s2 :: s3 :: s4 :: s5 :: s6 :: s7 :: s8 :: some (.ow (n && m) ((xs ++ [z]).map c)) :: r))) := by
  rw [aO_9, List.length_map, map_snoc]
@[simp ↓] theorem sOm_9 {s0 s1 s2 s3 s4 s5 s6 s7 s8 : Option Sl} (q : 0 ≤ j ∧ j < xs.length) : siK 9 (s0 :: s1 :: s2 :: s3 :: s4 :: s5 :: s6 :: s7 :: s8 :: some (.ow n (xs.map c)) :: r) m (c z) (.int j) h kO = kO (.nx (s0 :: s1 :: s2 :: s3 :: s4 :: s5 :: s6 :: s7 :: s8 :: some (.ow (n && m) ((ist xs j z).map c)) :: r)) := by
  rw [sO_9 (by rw [List.length_map]; exact q), map_set]; rfl
@[simp ↓] theorem eS_10 {s0 s1 s2 s3 s4 s5 s6 s7 s8 s9 : Option Sl} : cE (fVar 10) (s0 :: s1 :: s2 :: s3 :: s4 :: s5 :: s6 :: s7 :: s8 :: s9 :: some (.sh n d) :: r) h kE = kE (s0 :: s1 :: s2 :: s3 :: s4 :: s5 :: s6 :: s7 :: s8 :: s9 :: some (.sh n d) :: r) (.sh n d) := id rfl
@[simp ↓] theorem eO_10 {s0 s1 s2 s3 s4 s5 s6 s7 s8 s9 : Option Sl} : cE (fVar 10) (s0 :: s1 :: s2 :: s3 :: s4 :: s5 :: s6 :: s7 :: s8 :: s9 :: some (.ow n ds) :: r) h kE = kE (s0 :: s1 :: s2 :: s3 :: s4 :: s5 :: s6 :: s7 :: s8 :: s9 :: some (.ow n ds) :: r) (.own 10) := id rfl
@[simp ↓] theorem eSl_10 {s0 s1 s2 s3 s4 s5 s6 s7 s8 s9 : Option Sl} : cE (fVar 10) (lent (s0 :: s1 :: s2 :: s3 :: s4 :: s5 :: s6 :: s7 :: s8 :: s9 :: some (.sh n d) :: r)) h kE = kE (lent (s0 :: s1 :: s2 :: s3 :: s4 :: s5 :: s6 :: s7 :: s8 :: s9 :: some (.sh n d) :: r)) (.sh n d) := id rfl
@[simp ↓] theorem eOl_10 {s0 s1 s2 s3 s4 s5 s6 s7 s8 s9 : Option Sl} : cE (fVar 10) (lent (s0 :: s1 :: s2 :: s3 :: s4 :: s5 :: s6 :: s7 :: s8 :: s9 :: some (.ow n ds) :: r)) h kE = kE (lent (s0 :: s1 :: s2 :: s3 :: s4 :: s5 :: s6 :: s7 :: s8 :: s9 :: some (.ow n ds) :: r)) (.sh n (.list ds)) := id rfl
@[simp ↓] theorem vS_10 {s0 s1 s2 s3 s4 s5 s6 s7 s8 s9 : Option Sl} : cV (rd (fVar 10)) (s0 :: s1 :: s2 :: s3 :: s4 :: s5 :: s6 :: s7 :: s8 :: s9 :: some (.sh n d) :: r) h kV = kV (s0 :: s1 :: s2 :: s3 :: s4 :: s5 :: s6 :: s7 :: s8 :: s9 :: some (.sh n d) :: r) n d := id rfl
@[simp ↓] theorem vO_10 {s0 s1 s2 s3 s4 s5 s6 s7 s8 s9 : Option Sl} : cV (rd (fVar 10)) (s0 :: s1 :: s2 :: s3 :: s4 :: s5 :: s6 :: s7 :: s8 :: s9 :: some (.ow n ds) :: r) h kV = kV (s0 :: s1 :: s2 :: s3 :: s4 :: s5 :: s6 :: s7 :: s8 :: s9 :: some (.ow n ds) :: r) n (.list ds) := id rfl
@[simp ↓] theorem vSl_10 {s0 s1 s2 s3 s4 s5 s6 s7 s8 s9 : Option Sl} : cV (rd (fVar 10)) (lent (s0 :: s1 :: s2 :: s3 :: s4 :: s5 :: s6 :: s7 :: s8 :: s9 :: some (.sh n d) :: r)) h kV = kV (lent (s0 :: s1 :: s2 :: s3 :: s4 :: s5 :: s6 :: s7 :: s8 :: s9 :: some (.sh n d) :: r)) n d := id rfl
@[simp ↓] theorem vOl_10 {s0 s1 s2 s3 s4 s5 s6 s7 s8 s9 : Option Sl} : cV (rd (fVar 10)) (lent (s0 :: s1 :: s2 :: s3 :: s4 :: s5 :: s6 :: s7 :: s8 :: s9 :: some (.ow n ds) :: r)) h kV = kV (lent (s0 :: s1 :: s2 :: s3 :: s4 :: s5 :: s6 :: s7 :: s8 :: s9 :: some (.ow n ds) :: r)) n (.list ds) := id rfl
@[simp ↓] theorem kS_10 {s0 s1 s2 s3 s4 s5 s6 s7 s8 s9 : Option Sl} : cV (st (fVar 10)) (s0 :: s1 :: s2 :: s3 :: s4 :: s5 :: s6 :: s7 :: s8 :: s9 :: some (.sh n d) :: r) h kV = kV (s0 :: s1 :: s2 :: s3 :: s4 :: s5 :: s6 :: s7 :: s8 :: s9 :: some (.sh n d) :: r) n d := id rfl
@[simp ↓] theorem kO_10 {s0 s1 s2 s3 s4 s5 s6 s7 s8 s9 : Option Sl} : cV (st (fVar 10)) (s0 :: s1 :: s2 :: s3 :: s4 :: s5 :: s6 :: s7 :: s8 :: s9 :: some (.ow n ds) :: r) h kV = kV (s0 :: s1 :: s2 :: s3 :: s4 :: s5 :: s6 :: s7 :: s8 :: s9 :: some (.sh n (.list ds)) :: r) n (.list ds) := id rfl
@[simp ↓] theorem kSl_10 {s0 s1 s2 s3 s4 s5 s6 s7 s8 s9 : Option Sl} : cV (st (fVar 10)) (lent (s0 :: s1 :: s2 :: s3 :: s4 :: s5 :: s6 :: s7 :: s8 :: s9 :: some (.sh n d) :: r)) h kV = kV (lent (s0 :: s1 :: s2 :: s3 :: s4 :: s5 :: s6 :: s7 :: s8 :: s9 :: some (.sh n d) :: r)) n d := id rfl
@[simp ↓] theorem kOl_10 {s0 s1 s2 s3 s4 s5 s6 s7 s8 s9 : Option Sl} : cV (st (fVar 10)) (lent (s0 :: s1 :: s2 :: s3 :: s4 :: s5 :: s6 :: s7 :: s8 :: s9 :: some (.ow n ds) :: r)) h kV = kV (lent (s0 :: s1 :: s2 :: s3 :: s4 :: s5 :: s6 :: s7 :: s8 :: s9 :: some (.sh n (.list ds)) :: r)) n (.list ds) := id rfl
@[simp ↓] theorem p_10 {s0 s1 s2 s3 s4 s5 s6 s7 s8 s9 : Option Sl} : cP 10 (s0 :: s1 :: s2 :: s3 :: s4 :: s5 :: s6 :: s7 :: s8 :: s9 :: x :: r) y kP = kP (s0 :: s1 :: s2 :: s3 :: s4 :: s5 :: s6 :: s7 :: s8 :: s9 :: y :: r) := id rfl
@[simp ↓] theorem rO_10 {s0 s1 s2 s3 s4 s5 s6 s7 s8 s9 : Option Sl} : reK (s0 :: s1 :: s2 :: s3 :: s4 :: s5 :: s6 :: s7 :: s8 :: s9 :: some (.ow n ds) :: r) (.own 10) h kO = kO (.rt (.nw n ds)) := id rfl
@[simp ↓] theorem iO_10 {s0 s1 s2 s3 s4 s5 s6 s7 s8 s9 : Option Sl} {z : Rs β} : grd (isOw (gt (s0 :: s1 :: s2 :: s3 :: s4 :: s5 :: s6 :: s7 :: s8 :: s9 :: some (.ow n ds) :: r) 10)) z = z := id rfl
@[simp ↓] theorem rdO_10 {s0 s1 s2 s3 s4 s5 s6 s7 s8 s9 : Option Sl} : rdK (s0 :: s1 :: s2 :: s3 :: s4 :: s5 :: s6 :: s7 :: s8 :: s9 :: some (.ow n ds) :: r) (.own 10) h kV = kV (s0 :: s1 :: s2 :: s3 :: s4 :: s5 :: s6 :: s7 :: s8 :: s9 :: some (.ow n ds) :: r) n (.list ds) := id rfl
@[simp ↓] theorem stO_10 {s0 s1 s2 s3 s4 s5 s6 s7 s8 s9 : Option Sl} : stK (s0 :: s1 :: s2 :: s3 :: s4 :: s5 :: s6 :: s7 :: s8 :: s9 :: some (.ow n ds) :: r) (.own 10) h kV = kV (s0 :: s1 :: s2 :: s3 :: s4 :: s5 :: s6 :: s7 :: s8 :: s9 :: some (.sh n (.list ds)) :: r) n (.list ds) := id rfl
@[simp ↓] theorem pO_10 {s0 s1 s2 s3 s4 s5 s6 s7 s8 s9 : Option Sl} {i : Nat} : puK i (s0 :: s1 :: s2 :: s3 :: s4 :: s5 :: s6 :: s7 :: s8 :: s9 :: some (.ow n ds) :: r) (.own 10) h kP = cP i (s0 :: s1 :: s2 :: s3 :: s4 :: s5 :: s6 :: s7 :: s8 :: s9 :: some (.sh n (.list ds)) :: r) (some (.sh n (.list ds))) kP := id rfl
@[simp ↓ low] theorem aO_10 {s0 s1 s2 s3 s4 s5 s6 s7 s8 s9 : Option Sl} : apK 10 (s0 :: s1 :: s2 :: s3 :: s4 :: s5 :: s6 :: s7 :: s8 :: s9 :: some (.ow n ds) :: r) m d h kO = grd (decide (ds.length < 1000000)) (kO (.nx (s0 :: s1 :: s2 :: s3 :: s4 :: s5 :: s6 :: s7 :: s8 :: s9 :: some (.ow (n && m) (ds ++ [d])) :: r))) := by
  exact on_grd _ _ _ _
@[simp ↓ low] theorem sO_10 {s0 s1 s2 s3 s4 s5 s6 s7 s8 s9 : Option Sl} (z : 0 ≤ j ∧ j < ds.length) : siK 10 (s0 :: s1 :: s2 :: s3 :: s4 :: s5 :: s6 :: s7 :: s8 :: s9 :: some (.ow n ds) :: r) m d (.int j) h kO = kO (.nx (s0 :: s1 :: s2 :: s3 :: s4 :: s5 :: s6 :: s7 :: s8 :: s9 :: some (.ow (n && m) (ds.set j.toNat d)) :: r)) := by
  unfold siK; rw [show gt (s0 :: s1 :: s2 :: s3 :: s4 :: s5 :: s6 :: s7 :: s8 :: s9 :: some (.ow n ds) :: r) 10 = some (.ow n ds) from rfl, setS_ow, ixN_in z]; rfl
@[simp ↓] theorem aOm_10 {s0 s1 s2 s3 s4 s5 s6 s7 s8 s9 : Option Sl} : apK 10 (s0 :: s1 :: s2 :: s3 :: s4 :: s5 :: s6 :: s7 :: s8 :: s9 :: some (.ow n (xs.map c)) :: r) m (c z) h kO = grd (decide (xs.length < 1000000)) (kO (.nx (s0 :: s1 :: s2 :: s3 :: s4 :: s5 :: s6 :: s7 :: s8 :: s9 :: some (.ow (n && m) ((xs ++ [z]).map c)) :: r))) := by
  rw [aO_10, List.length_map, map_snoc]
@[simp ↓] theorem sOm_10 {s0 s1 s2 s3 s4 s5 s6 s7 s8 s9 : Option Sl} (q : 0 ≤ j ∧ j < xs.length) : siK 10 (s0 :: s1 :: s2 :: s3 :: s4 :: s5 :: s6 :: s7 :: s8 :: s9 :: some (.ow n (xs.map c)) :: r) m (c z) (.int j) h kO = kO (.nx (s0 :: s1 :: s2 :: s3 :: s4 :: s5 :: s6 :: s7 :: s8 :: s9 :: some (.ow (n && m) ((ist xs j z).map c)) :: r)) := by
  rw [sO_10 (by rw [List.length_map]; exact q), map_set]; rfl
@[simp ↓] theorem eS_11 {s0 s1 s2 s3 s4 s5 s6 s7 s8 s9 s10 : Option Sl} : cE (fVar 11) (s0 :: s1 :: s2 :: s3 :: s4 :: s5 :: s6 :: s7 :: s8 :: s9 :: s10 :: some (.sh n d) :: r) h kE = kE (s0 :: s1 :: s2 :: s3 :: s4 :: s5 :: s6 :: s7 :: s8 :: s9 :: s10 :: some (.sh n d) :: r) (.sh n d) := id rfl
@[simp ↓] theorem eO_11 {s0 s1 s2 s3 s4 s5 s6 s7 s8 s9 s10 : Option Sl} : cE (fVar 11) (s0 :: s1 :: s2 :: s3 :: s4 :: s5 :: s6 :: s7 :: s8 :: s9 :: s10 :: some (.ow n ds) :: r) h kE = kE (s0 :: s1 :: s2 :: s3 :: s4 :: s5 :: s6 :: s7 :: s8 :: s9 :: s10 :: some (.ow n ds) :: r) (.own 11) := id rfl
@[simp ↓] theorem eSl_11 {s0 s1 s2 s3 s4 s5 s6 s7 s8 s9 s10 : Option Sl} : cE (fVar 11) (lent (s0 :: s1 :: s2 :: s3 :: s4 :: s5 :: s6 :: s7 :: s8 :: s9 :: s10 :: some (.sh n d) :: r)) h kE = kE (lent (s0 :: s1 :: s2 :: s3 :: s4 :: s5 :: s6 :: s7 :: s8 :: s9 :: s10 :: some (.sh n d) :: r)) (.sh n d) := id rfl
@[simp ↓] theorem eOl_11 {s0 s1 s2 s3 s4 s5 s6 s7 s8 s9 s10 : Option Sl} : cE (fVar 11) (lent (s0 :: s1 :: s2 :: s3 :: s4 :: s5 :: s6 :: s7 :: s8 :: s9 :: s10 :: some (.ow n ds) :: r)) h kE = kE (lent (s0 :: s1 :: s2 :: s3 :: s4 :: s5 :: s6 :: s7 :: s8 :: s9 :: s10 :: some (.ow n ds) :: r)) (.sh n (.list ds)) := id rfl
@[simp ↓] theorem vS_11 {s0 s1 s2 s3 s4 s5 s6 s7 s8 s9 s10 : Option Sl} : cV (rd (fVar 11)) (s0 :: s1 :: s2 :: s3 :: s4 :: s5 :: s6 :: s7 :: s8 :: s9 :: s10 :: some (.sh n d) :: r) h kV = kV (s0 :: s1 :: s2 :: s3 :: s4 :: s5 :: s6 :: s7 :: s8 :: s9 :: s10 :: some (.sh n d) :: r) n d := id rfl
@[simp ↓] theorem vO_11 {s0 s1 s2 s3 s4 s5 s6 s7 s8 s9 s10 : Option Sl} : cV (rd (fVar 11)) (s0 :: s1 :: s2 :: s3 :: s4 :: s5 :: s6 :: s7 :: s8 :: s9 :: s10 :: some (.ow n ds) :: r) h kV = kV (s0 :: s1 :: s2 :: s3 :: s4 :: s5 :: s6 :: s7 :: s8 :: s9 :: s10 :: some (.ow n ds) :: r) n (.list ds) := id rfl
@[simp ↓] theorem vSl_11 {s0 s1 s2 s3 s4 s5 s6 s7 s8 s9 s10 : Option Sl} : cV (rd (fVar 11)) (lent (s0 :: s1 :: s2 :: s3 :: s4 :: s5 :: s6 :: s7 :: s8 :: s9 :: s10 :: some (.sh n d) :: r)) h kV = kV (lent (s0 :: s1 :: s2 :: s3 :: s4 :: s5 :: s6 :: s7 :: s8 :: s9 :: s10 :: some (.sh n d) :: r)) n d := id rfl
@[simp ↓] theorem vOl_11 {s0 s1 s2 s3 s4 s5 s6 s7 s8 s9 s10 : Option Sl} : cV (rd (fVar 11)) (lent (s0 :: s1 :: s2 :: s3 :: s4 :: s5 :: s6 :: s7 :: s8 :: s9 :: s10 :: some (.ow n ds) :: r)) h kV = kV (lent (s0 :: s1 :: s2 :: s3 :: s4 :: s5 :: s6 :: s7 :: s8 :: s9 :: s10 :: some (.ow n ds) :: r)) n (.list ds) := id rfl
@[simp ↓] theorem kS_11 {s0 s1 s2 s3 s4 s5 s6 s7 s8 s9 s10 : Option Sl} : cV (st (fVar 11)) (s0 :: s1 :: s2 :: s3 :: s4 :: s5 :: s6 :: s7 :: s8 :: s9 :: s10 :: some (.sh n d) :: r) h kV = kV (s0 :: s1 :: s2 :: s3 :: s4 :: s5 :: s6 :: s7 :: s8 :: s9 :: s10 :: some (.sh n d) :: r) n d := id rfl
@[simp ↓] theorem kO_11 {s0 s1 s2 s3 s4 s5 s6 s7 s8 s9 s10 : Option Sl} : cV (st (fVar 11)) (s0 :: s1 :: s2 :: s3 :: s4 :: s5 :: s6 :: s7 :: s8 :: s9 :: s10 :: some (.ow n ds) :: r) h kV = kV (s0 :: s1 :: s2 :: s3 :: s4 :: s5 :: s6 :: s7 :: s8 :: s9 :: s10 :: some (.sh n (.list ds)) :: r) n (.list ds) := id rfl
@[simp ↓] theorem kSl_11 {s0 s1 s2 s3 s4 s5 s6 s7 s8 s9 s10 : Option Sl} : cV (st (fVar 11)) (lent (s0 :: s1 :: s2 :: s3 :: s4 :: s5 :: s6 :: s7 :: s8 :: s9 :: s10 :: some (.sh n d) :: r)) h kV = kV (lent (s0 :: s1 :: s2 :: s3 :: s4 :: s5 :: s6 :: s7 :: s8 :: s9 :: s10 :: some (.sh n d) :: r)) n d := id rfl
@[simp ↓] theorem kOl_11 {s0 s1 s2 s3 s4 s5 s6 s7 s8 s9 s10 : Option Sl} : cV (st (fVar 11)) (lent (s0 :: s1 :: s2 :: s3 :: s4 :: s5 :: s6 :: s7 :: s8 :: s9 :: s10 :: some (.ow n ds) :: r)) h kV = kV (lent (s0 :: s1 :: s2 :: s3 :: s4 :: s5 :: s6 :: s7 :: s8 :: s9 :: s10 :: some (.sh n (.list ds)) :: r)) n (.list ds) := id rfl
@[simp ↓] theorem p_11 {s0 s1 s2 s3 s4 s5 s6 s7 s8 s9 s10 : Option Sl} : cP 11 (s0 :: s1 :: s2 :: s3 :: s4 :: s5 :: s6 :: s7 :: s8 :: s9 :: s10 :: x :: r) y kP = kP (s0 :: s1 :: s2 :: s3 :: s4 :: s5 :: s6 :: s7 :: s8 :: s9 :: s10 :: y :: r) := id rfl
@[simp ↓] theorem rO_11 {s0 s1 s2 s3 s4 s5 s6 s7 s8 s9 s10 : Option Sl} : reK (s0 :: s1 :: s2 :: s3 :: s4 :: s5 :: s6 :: s7 :: s8 :: s9 :: s10 :: some (.ow n ds) :: r) (.own 11) h kO = kO (.rt (.nw n ds)) := id rfl
@[simp ↓] theorem iO_11 {s0 s1 s2 s3 s4 s5 s6 s7 s8 s9 s10 : Option Sl} {z : Rs β} : grd (isOw (gt (s0 :: s1 :: s2 :: s3 :: s4 :: s5 :: s6 :: s7 :: s8 :: s9 :: s10 :: some (.ow n ds) :: r) 11)) z = z := id rfl
@[simp ↓] theorem rdO_11 {s0 s1 s2 s3 s4 s5 s6 s7 s8 s9 s10 : Option Sl} : rdK (s0 :: s1 :: s2 :: s3 :: s4 :: s5 :: s6 :: s7 :: s8 :: s9 :: s10 :: some (.ow n ds) :: r) (.own 11) h kV = kV (s0 :: s1 :: s2 :: s3 :: s4 :: s5 :: s6 :: s7 :: s8 :: s9 :: s10 :: some (.ow n ds) :: r) n (.list ds) := id rfl
@[simp ↓] theorem stO_11 {s0 s1 s2 s3 s4 s5 s6 s7 s8 s9 s10 : Option Sl} : stK (s0 :: s1 :: s2 :: s3 :: s4 :: s5 :: s6 :: s7 :: s8 :: s9 :: s10 :: some (.ow n ds) :: r) (.own 11) h kV = kV (s0 :: s1 :: s2 :: s3 :: s4 :: s5 :: s6 :: s7 :: s8 :: s9 :: s10 :: some (.sh n (.list ds)) :: r) n (.list ds) := id rfl
@[simp ↓] theorem pO_11 {s0 s1 s2 s3 s4 s5 s6 s7 s8 s9 s10 : Option Sl} {i : Nat} : puK i (s0 :: s1 :: s2 :: s3 :: s4 :: s5 :: s6 :: s7 :: s8 :: s9 :: s10 :: some (.ow n ds) :: r) (.own 11) h kP = cP i (s0 :: s1 :: s2 :: s3 :: s4 :: s5 :: s6 :: s7 :: s8 :: s9 :: s10 :: some (.sh n (.list ds)) :: r) (some (.sh n (.list ds))) kP := id rfl
@[simp ↓ low] theorem aO_11 {s0 s1 s2 s3 s4 s5 s6 s7 s8 s9 s10 : Option Sl} : apK 11 (s0 :: s1 :: s2 :: s3 :: s4 :: s5 :: s6 :: s7 :: s8 :: s9 :: s10 :: some (.ow n ds) :: r) m d h kO = grd (decide (ds.length < 1000000)) (kO (.nx (s0 :: s1 :: s2 :: s3 :: s4 :: s5 :: s6 :: s7 :: s8 :: s9 :: s10 :: some (.ow (n && m) (ds ++ [d])) :: r))) := by
  exact on_grd _ _ _ _
@[simp ↓ low] theorem sO_11 {s0 s1 s2 s3 s4 s5 s6 s7 s8 s9 s10 : Option Sl} (z : 0 ≤ j ∧ j < ds.length) : siK 11 (s0 :: s1 :: s2 :: s3 :: s4 :: s5 :: s6 :: s7 :: s8 :: s9 :: s10 :: some (.ow n ds) :: r) m d (.int j) h kO = kO (.nx (s0 :: s1 :: s2 :: s3 :: s4 :: s5 :: s6 :: s7 :: s8 :: s9 :: s10 :: some (.ow (n && m) (ds.set j.toNat d)) :: r)) := by
  unfold siK; rw [show gt (s0 :: s1 :: s2 :: s3 :: s4 :: s5 :: s6 :: s7 :: s8 :: s9 :: s10 :: some (.ow n ds) :: r) 11 = some (.ow n ds) from rfl, setS_ow, ixN_in z]; rfl
@[simp ↓] theorem aOm_11 {s0 s1 s2 s3 s4 s5 s6 s7 s8 s9 s10 : Option Sl} : apK 11 (s0 :: s1 :: s2 :: s3 :: s4 :: s5 :: s6 :: s7 :: s8 :: s9 :: s10 :: some (.ow n (xs.map c)) :: r) m (c z) h kO = grd (decide (xs.length < 1000000)) (kO (.nx (s0 :: s1 :: s2 :: s3 :: s4 :: s5 :: s6 :: s7 :: s8 :: s9 :: s10 :: some (.ow (n && m) ((xs ++ [z]).map c)) :: r))) := by
  rw [aO_11, List.length_map, map_snoc]
@[simp ↓] theorem sOm_11 {s0 s1 s2 s3 s4 s5 s6 s7 s8 s9 s10 : Option Sl} (q : 0 ≤ j ∧ j < xs.length) : siK 11 (s0 :: s1 :: s2 :: s3 :: s4 :: s5 :: s6 :: s7 :: s8 :: s9 :: s10 :: some (.ow n (xs.map c)) :: r) m (c z) (.int j) h kO = kO (.nx (s0 :: s1 :: s2 :: s3 :: s4 :: s5 :: s6 :: s7 :: s8 :: s9 :: s10 :: some (.ow (n && m) ((ist xs j z).map c)) :: r)) := by
  rw [sO_11 (by rw [List.length_map]; exact q), map_set]; rfl
@[simp ↓] theorem eS_12 {s0 s1 s2 s3 s4 s5 s6 s7 s8 s9 s10 s11 : Option Sl} : cE (fVar 12) (s0 :: s1 :: s2 :: s3 :: s4 :: s5 :: s6 :: s7 :: s8 :: s9 :: s10 :: s11 :: some (.sh n d) :: r) h kE = kE (s0 :: s1 :: s2 :: s3 :: s4 :: s5 :: s6 :: s7 :: s8 :: s9 :: s10 :: s11 :: some (.sh n d) :: r) (.sh n d) := id rfl
@[simp ↓] theorem eO_12 {s0 s1 s2 s3 s4 s5 s6 s7 s8 s9 s10 s11 : Option Sl} : cE (fVar 12) (s0 :: s1 :: s2 :: s3 :: s4 :: s5 :: s6 :: s7 :: s8 :: s9 :: s10 :: s11 :: some (.ow n ds) :: r) h kE = kE (s0 :: s1 :: s2 :: s3 :: s4 :: s5 :: s6 :: s7 :: s8 :: s9 :: s10 :: s11 :: some (.ow n ds) :: r) (.own 12) := id rfl
@[simp ↓] theorem eSl_12 {s0 s1 s2 s3 s4 s5 s6 s7 s8 s9 s10 s11 : Option Sl} : cE (fVar 12) (lent (s0 :: s1 :: s2 :: s3 :: s4 :: s5 :: s6 :: s7 :: s8 :: s9 :: s10 :: s11 :: some (.sh n d) :: r)) h kE = kE (lent (s0 :: s1 :: s2 :: s3 :: s4 :: s5 :: s6 :: s7 :: s8 :: s9 :: s10 :: s11 :: some (.sh n d) :: r)) (.sh n d) := id rfl
@[simp ↓] theorem eOl_12 {s0 s1 s2 s3 s4 s5 s6 s7 s8 s9 s10 s11 : Option Sl} : cE (fVar 12) (lent (s0 :: s1 :: s2 :: s3 :: s4 :: s5 :: s6 :: s7 :: s8 :: s9 :: s10 :: s11 :: some (.ow n ds) :: r)) h kE = kE (lent (s0 :: s1 :: s2 :: s3 :: s4 :: s5 :: s6 :: s7 :: s8 :: s9 :: s10 :: s11 :: some (.ow n ds) :: r)) (.sh n (.list ds)) := id rfl
@[simp ↓] theorem vS_12 {s0 s1 s2 s3 s4 s5 s6 s7 s8 s9 s10 s11 : Option Sl} : cV (rd (fVar 12)) (s0 :: s1 :: s2 :: s3 :: s4 :: s5 :: s6 :: s7 :: s8 :: s9 :: s10 :: s11 :: some (.sh n d) :: r) h kV = kV (s0 :: s1 :: s2 :: s3 :: s4 :: s5 :: s6 :: s7 :: s8 :: s9 :: s10 :: s11 :: some (.sh n d) :: r) n d := id rfl
@[simp ↓] theorem vO_12 {s0 s1 s2 s3 s4 s5 s6 s7 s8 s9 s10 s11 : Option Sl} : cV (rd (fVar 12)) (s0 :: s1 :: s2 :: s3 :: s4 :: s5 :: s6 :: s7 :: s8 :: s9 :: s10 :: s11 :: some (.ow n ds) :: r) h kV = kV (s0 :: s1 :: s2 :: s3 :: s4 :: s5 :: s6 :: s7 :: s8 :: s9 :: s10 :: s11 :: some (.ow n ds) :: r) n (.list ds) := id rfl
@[simp ↓] theorem vSl_12 {s0 s1 s2 s3 s4 s5 s6 s7 s8 s9 s10 s11 : Option Sl} : cV (rd (fVar 12)) (lent (s0 :: s1 :: s2 :: s3 :: s4 :: s5 :: s6 :: s7 :: s8 :: s9 :: s10 :: s11 :: some (.sh n d) :: r)) h kV = kV (lent (s0 :: s1 :: s2 :: s3 :: s4 :: s5 :: s6 :: s7 :: s8 :: s9 :: s10 :: s11 :: some (.sh n d) :: r)) n d := id rfl
@[simp ↓] theorem vOl_12 {s0 s1 s2 s3 s4 s5 s6 s7 s8 s9 s10 s11 : Option Sl} : cV (rd (fVar 12)) (lent (s0 :: s1 :: s2 :: s3 :: s4 :: s5 :: s6 :: s7 :: s8 :: s9 :: s10 :: s11 :: some (.ow n ds) :: r)) h kV = kV (lent (s0 :: s1 :: s2 :: s3 :: s4 :: s5 :: s6 :: s7 :: s8 :: s9 :: s10 :: s11 :: some (.ow n ds) :: r)) n (.list ds) := id rfl
@[simp ↓] theorem kS_12 {s0 s1 s2 s3 s4 s5 s6 s7 s8 s9 s10 s11 : Option Sl} : cV (st (fVar 12)) (s0 :: s1 :: s2 :: s3 :: s4 :: s5 :: s6 :: s7 :: s8 :: s9 :: s10 :: s11 :: some (.sh n d) :: r) h kV = kV (s0 :: s1 :: s2 :: s3 :: s4 :: s5 :: s6 :: s7 :: s8 :: s9 :: s10 :: s11 :: some (.sh n d) :: r) n d := id rfl
@[simp ↓] theorem kO_12 {s0 s1 s2 s3 s4 s5 s6 s7 s8 s9 s10 s11 : Option Sl} : cV (st (fVar 12)) (s0 :: s1 :: s2 :: s3 :: s4 :: s5 :: s6 :: s7 :: s8 :: s9 :: s10 :: s11 :: some (.ow n ds) :: r) h kV = kV (s0 :: s1 :: s2 :: s3 :: s4 :: s5 :: s6 :: s7 :: s8 :: s9 :: s10 :: s11 :: some (.sh n (.list ds)) :: r) n (.list ds) := id rfl
@[simp ↓] theorem kSl_12 {s0 s1 s2 s3 s4 s5 s6 s7 s8 s9 s10 s11 : Option Sl} : cV (st (fVar 12)) (lent (s0 :: s1 :: s2 :: s3 :: s4 :: s5 :: s6 :: s7 :: s8 :: s9 :: s10 :: s11 :: some (.sh n d) :: r)) h kV = kV (lent (s0 :: s1 :: s2 :: s3 :: s4 :: s5 :: s6 :: s7 :: s8 :: s9 :: s10 :: s11 :: some (.sh n d) :: r)) n d := id rfl
@[simp ↓] theorem kOl_12 {s0 s1 s2 s3 s4 s5 s6 s7 s8 s9 s10 s11 : Option Sl} : cV (st (fVar 12)) (lent (s0 :: s1 :: s2 :: s3 :: s4 :: s5 :: s6 :: s7 :: s8 :: s9 :: s10 :: s11 :: some (.ow n ds) :: r)) h kV = kV (lent (s0 :: s1 :: s2 :: s3 :: s4 :: s5 :: s6 :: s7 :: s8 :: s9 :: s10 :: s11 :: some (.sh n (.list ds)) :: r)) n (.list ds) := id rfl
@[simp ↓] theorem p_12 {s0 s1 s2 s3 s4 s5 s6 s7 s8 s9 s10 s11 : Option Sl} : cP 12 (s0 :: s1 :: s2 :: s3 :: s4 :: s5 :: s6 :: s7 :: s8 :: s9 :: s10 :: s11 :: x :: r) y kP = kP (s0 :: s1 :: s2 :: s3 :: s4 :: s5 :: s6 :: s7 :: s8 :: s9 :: s10 :: s11 :: y :: r) := id rfl
@[simp ↓] theorem rO_12 {s0 s1 s2 s3 s4 s5 s6 s7 s8 s9 s10 s11 : Option Sl} : reK (s0 :: s1 :: s2 :: s3 :: s4 :: s5 :: s6 :: s7 :: s8 :: s9 :: s10 :: s11 :: some (.ow n ds) :: r) (.own 12) h kO = kO (.rt (.nw n ds)) := id rfl
@[simp ↓] theorem iO_12 {s0 s1 s2 s3 s4 s5 s6 s7 s8 s9 s10 s11 : Option Sl} {z : Rs β} : grd (isOw (gt (s0 :: s1 :: s2 :: s3 :: s4 :: s5 :: s6 :: s7 :: s8 :: s9 :: s10 :: s11 :: some (.ow n ds) :: r) 12)) z = z := id rfl
@[simp ↓] theorem rdO_12 {s0 s1 s2 s3 s4 s5 s6 s7 s8 s9 s10 s11 : Option Sl} : rdK (s0 :: s1 :: s2 :: s3 :: s4 :: s5 :: s6 :: s7 :: s8 :: s9 :: s10 :: s11 :: some (.ow n ds) :: r) (.own 12) h kV = kV (s0 :: s1 :: s2 :: s3 :: s4 :: s5 :: s6 :: s7 :: s8 :: s9 :: s10 :: s11 :: some (.ow n ds) :: r) n (.list ds) := id rfl
@[simp ↓] theorem stO_12 {s0 s1 s2 s3 s4 s5 s6 s7 s8 s9 s10 s11 : Option Sl} : stK (s0 :: s1 :: s2 :: s3 :: s4 :: s5 :: s6 :: s7 :: s8 :: s9 :: s10 :: s11 :: some (.ow n ds) :: r) (.own 12) h kV = kV (s0 :: s1 :: s2 :: s3 :: s4 :: s5 :: s6 :: s7 :: s8 :: s9 :: s10 :: s11 :: some (.sh n (.list ds)) :: r) n (.list ds) := id rfl
@[simp ↓] theorem pO_12 {s0 s1 s2 s3 s4 s5 s6 s7 s8 s9 s10 s11 : Option Sl} {i : Nat} : puK i (s0 :: s1 :: s2 :: s3 :: s4 :: s5 :: s6 :: s7 :: s8 :: s9 :: s10 :: s11 :: some (.ow n ds) :: r) (.own 12) h kP = cP i (s0 :: s1 :: s2 :: s3 :: s4 :: s5 :: s6 :: s7 :: s8 :: s9 :: s10 :: s11 :: some (.sh n (.list ds)) :: r) (some (.sh n (.list ds))) kP := id rfl
@[simp ↓ low] theorem aO_12 {s0 s1 s2 s3 s4 s5 s6 s7 s8 s9 s10 s11 : Option Sl} : apK 12 (s0 :: s1 :: s2 :: s3 :: s4 :: s5 :: s6 :: s7 :: s8 :: s9 :: s10 :: s11 :: some (.ow n ds) :: r) m d h kO = grd (decide (ds.length < 1000000)) (kO (.nx (s0 :: s1 :: s2 :: s3 :: s4 :: s5 :: s6 :: s7 :: s8 :: s9 :: s10 :: s11 :: some (.ow (n && m) (ds ++ [d])) :: r))) := by
  exact on_grd _ _ _ _
@[simp ↓ low] theorem sO_12 {s0 s1 s2 s3 s4 s5 s6 s7 s8 s9 s10 s11 : Option Sl} (z : 0 ≤ j ∧ j < ds.length) : siK 12 (s0 :: s1 :: s2 :: s3 :: s4 :: s5 :: s6 :: s7 :: s8 :: s9 :: s10 :: s11 :: some (.ow n ds) :: r) m d (.int j) h kO = kO (.nx (s0 :: s1 :: s2 :: s3 :: s4 :: s5 :: s6 :: s7 :: s8 :: s9 :: s10 :: s11 :: some (.ow (n && m) (ds.set j.toNat d)) :: r)) := by
  unfold siK; rw [show gt (s0 :: s1 :: s2 :: s3 :: s4 :: s5 :: s6 :: s7 :: s8 :: s9 :: s10 :: s11 :: some (.ow n ds) :: r) 12 = some (.ow n ds) from rfl, setS_ow, ixN_in z]; rfl
@[simp ↓] theorem aOm_12 {s0 s1 s2 s3 s4 s5 s6 s7 s8 s9 s10 s11 : Option Sl} : apK 12 (s0 :: s1 :: s2 :: s3 :: s4 :: s5 :: s6 :: s7 :: s8 :: s9 :: s10 :: s11 :: some (.ow n (xs.map c)) :: r) m (c z) h kO = grd (decide (xs.length < 1000000)) (kO (.nx (s0 :: s1 :: s2 :: s3 :: s4 :: s5 :: s6 :: s7 :: s8 :: s9 :: s10 :: s11 :: some (.ow (n && m) ((xs ++ [z]).map c)) :: r))) := by
  rw [aO_12, List.length_map, map_snoc]
@[simp ↓] theorem sOm_12 {s0 s1 s2 s3 s4 s5 s6 s7 s8 s9 s10 s11 : Option Sl} (q : 0 ≤ j ∧ j < xs.length) : siK 12 (s0 :: s1 :: s2 :: s3 :: s4 :: s5 :: s6 :: s7 :: s8 :: s9 :: s10 :: s11 :: some (.ow n (xs.map c)) :: r) m (c z) (.int j) h kO = kO (.nx (s0 :: s1 :: s2 :: s3 :: s4 :: s5 :: s6 :: s7 :: s8 :: s9 :: s10 :: s11 :: some (.ow (n && m) ((ist xs j z).map c)) :: r)) := by
  rw [sO_12 (by rw [List.length_map]; exact q), map_set]; rfl
@[simp ↓] theorem eS_13 {s0 s1 s2 s3 s4 s5 s6 s7 s8 s9 s10 s11 s12 : Option Sl} : cE (fVar 13) (s0 :: s1 :: s2 :: s3 :: s4 :: s5 :: s6 :: s7 :: s8 :: s9 :: s10 :: s11 :: s12 :: some (.sh n d) :: r) h kE = kE (s0 :: s1 :: s2 :: s3 :: s4 :: s5 :: s6 :: s7 :: s8 :: s9 :: s10 :: s11 :: s12 :: some (.sh n d) :: r) (.sh n d) := id rfl
@[simp ↓] theorem eO_13 {s0 s1 s2 s3 s4 s5 s6 s7 s8 s9 s10 s11 s12 : Option Sl} : cE (fVar 13) (s0 :: s1 :: s2 :: s3 :: s4 :: s5 :: s6 :: s7 :: s8 :: s9 :: s10 :: s11 :: s12 :: some (.ow n ds) :: r) h kE = kE (s0 :: s1 :: s2 :: s3 :: s4 :: s5 :: s6 :: s7 :: s8 :: s9 :: s10 :: s11 :: s12 :: some (.ow n ds) :: r) (.own 13) := id rfl
@[simp ↓] theorem eSl_13 {s0 s1 s2 s3 s4 s5 s6 s7 s8 s9 s10 s11 s12 : Option Sl} : cE (fVar 13) (lent (s0 :: s1 :: s2 :: s3 :: s4 :: s5 :: s6 :: s7 :: s8 :: s9 :: s10 :: s11 :: s12 :: some (.sh n d) :: r)) h kE = kE (lent (s0 :: s1 :: s2 :: s3 :: s4 :: s5 :: s6 :: s7 :: s8 :: s9 :: s10 :: s11 :: s12 :: some (.sh n d) :: r)) (.sh n d) := id rfl
@[simp ↓] theorem eOl_13 {s0 s1 s2 s3 s4 s5 s6 s7 s8 s9 s10 s11 s12 : Option Sl} : cE (fVar 13) (lent (s0 :: s1 :: s2 :: s3 :: s4 :: s5 :: s6 :: s7 :: s8 :: s9 :: s10 :: s11 :: s12 :: some (.ow n ds) :: r)) h kE = kE (lent (s0 :: s1 :: s2 :: s3 :: s4 :: s5 :: s6 :: s7 :: s8 :: s9 :: s10 :: s11 :: s12 :: some (.ow n ds) :: r)) (.sh n (.list ds)) := id rfl
@[simp ↓] theorem vS_13 {s0 s1 s2 s3 s4 s5 s6 s7 s8 s9 s10 s11 s12 : Option Sl} : cV (rd (fVar 13)) (s0 :: s1 :: s2 :: s3 :: s4 :: s5 :: s6 :: s7 :: s8 :: s9 :: s10 :: s11 :: s12 :: some (.sh n d) :: r) h kV = kV (s0 :: s1 :: s2 :: s3 :: s4 :: s5 :: s6 :: s7 :: s8 :: s9 :: s10 :: s11 :: s12 :: some (.sh n d) :: r) n d := id rfl
@[simp ↓] theorem vO_13 {s0 s1 s2 s3 s4 s5 s6 s7 s8 s9 s10 s11 s12 : Option Sl} : cV (rd (fVar 13)) (s0 :: s1 :: s2 :: s3 :: s4 :: s5 :: s6 :: s7 :: s8 :: s9 :: s10 :: s11 :: s12 :: some (.ow n ds) :: r) h kV = kV (s0 :: s1 :: s2 :: s3 :: s4 :: s5 :: s6 :: s7 :: s8 :: s9 :: s10 :: s11 :: s12 :: some (.ow n ds) :: r) n (.list ds) := id rfl
@[simp ↓] theorem vSl_13 {s0 s1 s2 s3 s4 s5 s6 s7 s8 s9 s10 s11 s12 : Option Sl} : cV (rd (fVar 13)) (lent (s0 :: s1 :: s2 :: s3 :: s4 :: s5 :: s6 :: s7 :: s8 :: s9 :: s10 :: s11 :: s12 :: some (.sh n d) :: r)) h kV = kV (lent (s0 :: s1 :: s2 :: s3 :: s4 :: s5 :: s6 :: s7 :: s8 :: s9 :: s10 :: s11 :: s12 :: some (.sh n d) :: r)) n d := id rfl
@[simp ↓] theorem vOl_13 {s0 s1 s2 s3 s4 s5 s6 s7 s8 s9 s10 s11 s12 : Option Sl} : cV (rd (fVar 13)) (lent (s0 :: s1 :: s2 :: s3 :: s4 :: s5 :: s6 :: s7 :: s8 :: s9 :: s10 :: s11 :: s12 :: some (.ow n ds) :: r)) h kV = kV (lent (s0 :: s1 :: s2 :: s3 :: s4 :: s5 :: s6 :: s7 :: s8 :: s9 :: s10 :: s11 :: s12 :: some (.ow n ds) :: r)) n (.list ds) := id rfl
@[simp ↓] theorem kS_13 {s0 s1 s2 s3 s4 s5 s6 s7 s8 s9 s10 s11 s12 : Option Sl} : cV (st (fVar 13)) (s0 :: s1 :: s2 :: s3 :: s4 :: s5 :: s6 :: s7 :: s8 :: s9 :: s10 :: s11 :: s12 :: some (.sh n d) :: r) h kV = kV (s0 :: s1 :: s2 :: s3 :: s4 :: s5 :: s6 :: s7 :: s8 :: s9 :: s10 :: s11 :: s12 :: some (.sh n d) :: r) n d := id rfl
@[simp ↓] theorem kO_13 {s0 s1 s2 s3 s4 s5 s6 s7 s8 s9 s10 s11 s12 : Option Sl} : cV (st (fVar 13)) (s0 :: s1 :: s2 :: s3 :: s4 :: s5 :: s6 :: s7 :: s8 :: s9 :: s10 :: s11 :: s12 :: some (.ow n ds) :: r) h kV = kV (s0 :: s1 :: s2 :: s3 :: s4 :: s5 :: s6 :: s7 :: s8 :: s9 :: s10 :: s11 :: s12 :: some (.sh n (.list ds)) :: r) n (.list ds) := id rfl
@[simp ↓] theorem kSl_13 {s0 s1 s2 s3 s4 s5 s6 s7 s8 s9 s10 s11 s12 : Option Sl} : cV (st (fVar 13)) (lent (s0 :: s1 :: s2 :: s3 :: s4 :: s5 :: s6 :: s7 :: s8 :: s9 :: s10 :: s11 :: s12 :: some (.sh n d) :: r)) h kV = kV (lent (s0 :: s1 :: s2 :: s3 :: s4 :: s5 :: s6 :: s7 :: s8 :: s9 :: s10 :: s11 :: s12 :: some (.sh n d) :: r)) n d := id rfl
@[simp ↓] theorem kOl_13 {s0 s1 s2 s3 s4 s5 s6 s7 s8 s9 s10 s11 s12 : Option Sl} : cV (st (fVar 13)) (lent (s0 :: s1 :: s2 :: s3 :: s4 :: s5 :: s6 :: s7 :: s8 :: s9 :: s10 :: s11 :: s12 :: some (.ow n ds) :: r)) h kV = kV (lent (s0 :: s1 :: s2 :: s3 :: s4 :: s5 :: s6 :: s7 :: s8 :: s9 :: s10 :: s11 :: s12 :: some (.sh n (.list ds)) :: r)) n (.list ds) := id rfl
@[simp ↓] theorem p_13 {s0 s1 s2 s3 s4 s5 s6 s7 s8 s9 s10 s11 s12 : Option Sl} : cP 13 (s0 :: s1 :: s2 :: s3 :: s4 :: s5 :: s6 :: s7 :: s8 :: s9 :: s10 :: s11 :: s12 :: x :: r) y kP = kP (s0 :: s1 :: s2 :: s3 :: s4 :: s5 :: s6 :: s7 :: s8 :: s9 :: s10 :: s11 :: s12 :: y :: r) := id rfl
@[simp ↓] theorem rO_13 {s0 s1 s2 s3 s4 s5 s6 s7 s8 s9 s10 s11 s12 : Option Sl} : reK (s0 :: s1 :: s2 :: s3 :: s4 :: s5 :: s6 :: s7 :: s8 :: s9 :: s10 :: s11 :: s12 :: some (.ow n ds) :: r) (.own 13) h kO = kO (.rt (.nw n ds)) := id rfl
@[simp ↓] theorem iO_13 {s0 s1 s2 s3 s4 s5 s6 s7 s8 s9 s10 s11 s12 : Option Sl} {z : Rs β} : grd (isOw (gt (s0 :: s1 :: s2 :: s3 :: s4 :: s5 :: s6 :: s7 :: s8 :: s9 :: s10 :: s11 :: s12 :: some (.ow n ds) :: r) 13)) z = z := id rfl
@[simp ↓] theorem rdO_13 {s0 s1 s2 s3 s4 s5 s6 s7 s8 s9 s10 s11 s12 : Option Sl} : rdK (s0 :: s1 :: s2 :: s3 :: s4 :: s5 :: s6 :: s7 :: s8 :: s9 :: s10 :: s11 :: s12 :: some (.ow n ds) :: r) (.own 13) h kV = kV (s0 :: s1 :: s2 :: s3 :: s4 :: s5 :: s6 :: s7 :: s8 :: s9 :: s10 :: s11 :: s12 :: some (.ow n ds) :: r) n (.list ds) := id rfl
@[simp ↓] theorem stO_13 {s0 s1 s2 s3 s4 s5 s6 s7 s8 s9 s10 s11 s12 : Option Sl} : stK (s0 :: s1 :: s2 :: s3 :: s4 :: s5 :: s6 :: s7 :: s8 :: s9 :: s10 :: s11 :: s12 :: some (.ow n ds) :: r) (.own 13) h kV = kV (s0 :: s1 :: s2 :: s3 :: s4 :: s5 :: s6 :: s7 :: s8 :: s9 :: s10 :: s11 :: s12 :: some (.sh n (.list ds)) :: r) n (.list ds) := id rfl
@[simp ↓] theorem pO_13 {s0 s1 s2 s3 s4 s5 s6 s7 s8 s9 s10 s11 s12 : Option Sl} {i : Nat} : puK i (s0 :: s1 :: s2 :: s3 :: s4 :: s5 :: s6 :: s7 :: s8 :: s9 :: s10 :: s11 :: s12 :: some (.ow n ds) :: r) (.own 13) h kP = cP i (s0 :: s1 :: s2 :: s3 :: s4 :: s5 :: s6 :: s7 :: s8 :: s9 :: s10 :: s11 :: s12 :: some (.sh n (.list ds)) :: r) (some (.sh n (.list ds))) kP := id rfl
@[simp ↓ low] theorem aO_13 {s0 s1 s2 s3 s4 s5 s6 s7 s8 s9 s10 s11 s12 : Option Sl} : apK 13 (s0 :: s1 :: s2 :: s3 :: s4 :: s5 :: s6 :: s7 :: s8 :: s9 :: s10 :: s11 :: s12 :: some (.ow n ds) :: r) m d h kO = grd (decide (ds.length < 1000000)) (kO (.nx (s0 :: s1 :: s2 :: s3 :: s4 :: s5 :: s6 :: s7 :: s8 :: s9 :: s10 :: s11 :: s12 :: some (.ow (n && m) (ds ++ [d])) :: r))) := by
  exact on_grd _ _ _ _
@[simp ↓ low] theorem sO_13 {s0 s1 s2 s3 s4 s5 s6 s7 s8 s9 s10 s11 s12 : Option Sl} (z : 0 ≤ j ∧ j < ds.length) : siK 13 (s0 :: s1 :: s2 :: s3 :: s4 :: s5 :: s6 :: s7 :: s8 :: s9 :: s10 :: s11 :: s12 :: some (.ow n ds) :: r) m d (.int j) h kO = kO (.nx (s0 :: s1 :: s2 :: s3 :: s4 :: s5 :: s6 :: s7 :: s8 :: s9 :: s10 :: s11 :: s12 :: some (.ow (n && m) (ds.set j.toNat d)) :: r)) := by
  unfold siK; rw [show gt (s0 :: s1 :: s2 :: s3 :: s4 :: s5 :: s6 :: s7 :: s8 :: s9 :: s10 :: s11 :: s12 :: some (.ow n ds) :: r) 13 = some (.ow n ds) from rfl, setS_ow, ixN_in z]; rfl
@[simp ↓] theorem aOm_13 {s0 s1 s2 s3 s4 s5 s6 s7 s8 s9 s10 s11 s12 : Option Sl} : apK 13 (s0 :: s1 :: s2 :: s3 :: s4 :: s5 :: s6 :: s7 :: s8 :: s9 :: s10 :: s11 :: s12 :: some (.ow n (xs.map c)) :: r) m (c z) h kO = grd (decide (xs.length < 1000000)) (kO (.nx (s0 :: s1 :: s2 :: s3 :: s4 :: s5 :: s6 :: s7 :: s8 :: s9 :: s10 :: s11 :: s12 :: some (.ow (n && m) ((xs ++ [z]).map c)) :: r))) := by
  rw [aO_13, List.length_map, map_snoc]
@[simp ↓] theorem sOm_13 {s0 s1 s2 s3 s4 s5 s6 s7 s8 s9 s10 s11 s12 : Option Sl} (q : 0 ≤ j ∧ j < xs.length) : siK 13 (s0 :: s1 :: s2 :: s3 :: s4 :: s5 :: s6 :: s7 :: s8 :: s9 :: s10 :: s11 :: s12 :: some (.ow n (xs.map c)) :: r) m (c z) (.int j) h kO = kO (.nx (s0 :: s1 :: s2 :: s3 :: s4 :: s5 :: s6 :: s7 :: s8 :: s9 :: s10 :: s11 :: s12 :: some (.ow (n && m) ((ist xs j z).map c)) :: r)) := by
  rw [sO_13 (by rw [List.length_map]; exact q), map_set]; rfl
@[simp ↓] theorem eS_14 {s0 s1 s2 s3 s4 s5 s6 s7 s8 s9 s10 s11 s12 s13 : Option Sl} : cE (fVar 14) (s0 :: s1 :: s2 :: s3 :: s4 :: s5 :: s6 :: s7 :: s8 :: s9 :: s10 :: s11 :: s12 :: s13 :: some (.sh n d) :: r) h kE = kE (s0 :: s1 :: s2 :: s3 :: s4 :: s5 :: s6 :: s7 :: s8 :: s9 :: s10 :: s11 :: s12 :: s13 :: some (.sh n d) :: r) (.sh n d) := id rfl
@[simp ↓] theorem eO_14 {s0 s1 s2 s3 s4 s5 s6 s7 s8 s9 s10 s11 s12 s13 : Option Sl} : cE (fVar 14) (s0 :: s1 :: s2 :: s3 :: s4 :: s5 :: s6 :: s7 :: s8 :: s9 :: s10 :: s11 :: s12 :: s13 :: some (.ow n ds) :: r) h kE = kE (s0 :: s1 :: s2 :: s3 :: s4 :: s5 :: s6 :: s7 :: s8 :: s9 :: s10 :: s11 :: s12 :: s13 :: some (.ow n ds) :: r) (.own 14) := id rfl
@[simp ↓] theorem eSl_14 {s0 s1 s2 s3 s4 s5 s6 s7 s8 s9 s10 s11 s12 s13 : Option Sl} : cE (fVar 14) (lent (s0 :: s1 :: s2 :: s3 :: s4 :: s5 :: s6 :: s7 :: s8 :: s9 :: s10 :: s11 :: s12 :: s13 :: some (.sh n d) :: r)) h kE = kE (lent (s0 :: s1 :: s2 :: s3 :: s4 :: s5 :: s6 :: s7 :: s8 :: s9 :: s10 :: s11 :: s12 :: s13 :: some (.sh n d) :: r)) (.sh n d) := id rfl
@[simp ↓] theorem eOl_14 {s0 s1 s2 s3 s4 s5 s6 s7 s8 s9 s10 s11 s12 s13 : Option Sl} : cE (fVar 14) (lent (s0 :: s1 :: s2 :: s3 :: s4 :: s5 :: s6 :: s7 :: s8 :: s9 :: s10 :: s11 :: s12 :: s13 :: some (.ow n ds) :: r)) h kE = kE (lent (s0 :: s1 :: s2 :: s3 :: s4 :: s5 :: s6 :: s7 :: s8 :: s9 :: s10 :: s11 :: s12 :: s13 :: some (.ow n ds) :: r)) (.sh n (.list ds)) := id rfl
@[simp ↓] theorem vS_14 {s0 s1 s2 s3 s4 s5 s6 s7 s8 s9 s10 s11 s12 s13 : Option Sl} : cV (rd (fVar 14)) (s0 :: s1 :: s2 :: s3 :: s4 :: s5 :: s6 :: s7 :: s8 :: s9 :: s10 :: s11 :: s12 :: s13 :: some (.sh n d) :: r) h kV = kV (s0 :: s1 :: s2 :: s3 :: s4 :: s5 :: s6 :: s7 :: s8 :: s9 :: s10 :: s11 :: s12 :: s13 :: some (.sh n d) :: r) n d := id rfl
@[simp ↓] theorem vO_14 {s0 s1 s2 s3 s4 s5 s6 s7 s8 s9 s10 s11 s12 s13 : Option Sl} : cV (rd (fVar 14)) (s0 :: s1 :: s2 :: s3 :: s4 :: s5 :: s6 :: s7 :: s8 :: s9 :: s10 :: s11 :: s12 :: s13 :: some (.ow n ds) :: r) h kV = kV (s0 :: s1 :: s2 :: s3 :: s4 :: s5 :: s6 :: s7 :: s8 :: s9 :: s10 :: s11 :: s12 :: s13 :: some (.ow n ds) :: r) n (.list ds) := id rfl
@[simp ↓] theorem vSl_14 {s0 s1 s2 s3 s4 s5 s6 s7 s8 s9 s10 s11 s12 s13 : Option Sl} : cV (rd (fVar 14)) (lent (s0 :: s1 :: s2 :: s3 :: s4 :: s5 :: s6 :: s7 :: s8 :: s9 :: s10 :: s11 :: s12 :: s13 :: some (.sh n d) :: r)) h kV = kV (lent (s0 :: s1 :: s2 :: s3 :: s4 :: s5 :: s6 :: s7 :: s8 :: s9 :: s10 :: s11 :: s12 :: s13 :: some (.sh n d) :: r)) n d := id rfl
@[simp ↓] theorem vOl_14 {s0 s1 s2 s3 s4 s5 s6 s7 s8 s9 s10 s11 s12 s13 : Option Sl} : cV (rd (fVar 14)) (lent (s0 :: s1 :: s2 :: s3 :: s4 :: s5 :: s6 :: s7 :: s8 :: s9 :: s10 :: s11 :: s12 :: s13 :: some (.ow n ds) :: r)) h kV = kV (lent (s0 :: s1 :: s2 :: s3 :: s4 :: s5 :: s6 :: s7 :: s8 :: s9 :: s10 :: s11 :: s12 :: s13 :: some (.ow n ds) :: r)) n (.list ds) := id rfl
@[simp ↓] theorem kS_14 {s0 s1 s2 s3 s4 s5 s6 s7 s8 s9 s10 s11 s12 s13 : Option Sl} : cV (st (fVar 14)) (s0 :: s1 :: s2 :: s3 :: s4 :: s5 :: s6 :: s7 :: s8 :: s9 :: s10 :: s11 :: s12 :: s13 :: some (.sh n d) :: r) h kV = kV (s0 :: s1 :: s2 :: s3 :: s4 :: s5 :: s6 :: s7 :: s8 :: s9 :: s10 :: s11 :: s12 :: s13 :: some (.sh n d) :: r) n d := id rfl
@[simp ↓] theorem kO_14 {s0 s1 s2 s3 s4 s5 s6 s7 s8 s9 s10 s11 s12 s13 : Option Sl} : cV (st (fVar 14)) (s0 :: s1 :: s2 :: s3 :: s4 :: s5 :: s6 :: s7 :: s8 :: s9 :: s10 :: s11 :: s12 :: s13 :: some (.ow n ds) :: r) h kV = kV (s0 :: s1 :: s2 :: s3 :: s4 :: s5 :: s6 :: s7 :: s8 :: s9 :: s10 :: s11 :: s12 :: s13 :: some (.sh n (.list ds)) :: r) n (.list ds) := id rfl
@[simp ↓] theorem kSl_14 {s0 s1 s2 s3 s4 s5 s6 s7 s8 s9 s10 s11 s12 s13 : Option Sl} : cV (st (fVar 14)) (lent (s0 :: s1 :: s2 :: s3 :: s4 :: s5 :: s6 :: s7 :: s8 :: s9 :: s10 :: s11 :: s12 :: s13 :: some (.sh n d) :: r)) h kV = kV (lent (s0 :: s1 :: s2 :: s3 :: s4 :: s5 :: s6 :: s7 :: s8 :: s9 :: s10 :: s11 :: s12 :: s13 :: some (.sh n d) :: r)) n d := id rfl
@[simp ↓] theorem kOl_14 {s0 s1 s2 s3 s4 s5 s6 s7 s8 s9 s10 s11 s12 s13 : Option Sl} : cV (st (fVar 14)) (lent (s0 :: s1 :: s2 :: s3 :: s4 :: s5 :: s6 :: s7 :: s8 :: s9 :: s10 :: s11 :: s12 :: s13 :: some (.ow n ds) :: r)) h kV = kV (lent (s0 :: s1 :: s2 :: s3 :: s4 :: s5 :: s6 :: s7 :: s8 :: s9 :: s10 :: s11 :: s12 :: s13 :: some (.sh n (.list ds)) :: r)) n (.list ds) := id rfl
@[simp ↓] theorem p_14 {s0 s1 s2 s3 s4 s5 s6 s7 s8 s9 s10 s11 s12 s13 : Option Sl} : cP 14 (s0 :: s1 :: s2 :: s3 :: s4 :: s5 :: s6 :: s7 :: s8 :: s9 :: s10 :: s11 :: s12 :: s13 :: x :: r) y kP = kP (s0 :: s1 :: s2 :: s3 :: s4 :: s5 :: s6 :: s7 :: s8 :: s9 :: s10 :: s11 :: s12 :: s13 :: y :: r) := id rfl
@[simp ↓] theorem rO_14 {s0 s1 s2 s3 s4 s5 s6 s7 s8 s9 s10 s11 s12 s13 : Option Sl} : reK (s0 :: s1 :: s2 :: s3 :: s4 :: s5 :: s6 :: s7 :: s8 :: s9 :: s10 :: s11 :: s12 :: s13 :: some (.ow n ds) :: r) (.own 14) h kO = kO (.rt (.nw n ds)) := id rfl
@[simp ↓] theorem iO_14 {s0 s1 s2 s3 s4 s5 s6 s7 s8 s9 s10 s11 s12 s13 : Option Sl} {z : Rs β} : grd (isOw (gt (s0 :: s1 :: s2 :: s3 :: s4 :: s5 :: s6 :: s7 :: s8 :: s9 :: s10 :: s11 :: s12 :: s13 :: some (.ow n ds) :: r) 14)) z = z := id rfl
@[simp ↓] theorem rdO_14 {s0 s1 s2 s3 s4 s5 s6 s7 s8 s9 s10 s11 s12 s13 : Option Sl} : rdK (s0 :: s1 :: s2 :: s3 :: s4 :: s5 :: s6 :: s7 :: s8 :: s9 :: s10 :: s11 :: s12 :: s13 :: some (.ow n ds) :: r) (.own 14) h kV = kV (s0 :: s1 :: s2 :: s3 :: s4 :: s5 :: s6 :: s7 :: s8 :: s9 :: s10 :: s11 :: s12 :: s13 :: some (.ow n ds) :: r) n (.list ds) := id rfl
@[simp ↓] theorem stO_14 {s0 s1 s2 s3 s4 s5 s6 s7 s8 s9 s10 s11 s12 s13 : Option Sl} : stK (s0 :: s1 :: s2 :: s3 :: s4 :: s5 :: s6 :: s7 :: s8 :: s9 :: s10 :: s11 :: s12 :: s13 :: some (.ow n ds) :: r) (.own 14) h kV = kV (s0 :: s1 :: s2 :: s3 :: s4 :: s5 :: s6 :: s7 :: s8 :: s9 :: s10 :: s11 :: s12 :: s13 :: some (.sh n (.list ds)) :: r) n (.list ds) := id rfl
@[simp ↓] theorem pO_14 {s0 s1 s2 s3 s4 s5 s6 s7 s8 s9 s10 s11 s12 s13 : Option Sl} {i : Nat} : puK i (s0 :: s1 :: s2 :: s3 :: s4 :: s5 :: s6 :: s7 :: s8 :: s9 :: s10 :: s11 :: s12 :: s13 :: some (.ow n ds) :: r) (.own 14) h kP = cP i (s0 :: s1 :: s2 :: s3 :: s4 :: s5 :: s6 :: s7 :: s8 :: s9 :: s10 :: s11 :: s12 :: s13 :: some (.sh n (.list ds)) :: r) (some (.sh n (.list ds))) kP := id rfl
@[simp ↓ low] theorem aO_14 {s0 s1 s2 s3 s4 s5 s6 s7 s8 s9 s10 s11 s12 s13 : Option Sl} : apK 14 (s0 :: s1 :: s2 :: s3 :: s4 :: s5 :: s6 :: s7 :: s8 :: s9 :: s10 :: s11 :: s12 :: s13 :: some (.ow n ds) :: r) m d h kO = grd (decide (ds.length < 1000000)) (kO (.nx (s0 :: s1 :: s2 :: s3 :: s4 :: s5 :: s6 :: s7 :: s8 :: s9 :: s10 :: s11 :: s12 :: s13 :: some (.ow (n && m) (ds ++ [d])) :: r))) := by
  exact on_grd _ _ _ _
@[simp ↓ low] theorem sO_14 {s0 s1 s2 s3 s4 s5 s6 s7 s8 s9 s10 s11 s12 s13 : Option Sl} (z : 0 ≤ j ∧ j < ds.length) : siK 14 (s0 :: s1 :: s2 :: s3 :: s4 :: s5 :: s6 :: s7 :: s8 :: s9 :: s10 :: s11 :: s12 :: s13 :: some (.ow n ds) :: r) m d (.int j) h kO = kO (.nx (s0 :: s1 :: s2 :: s3 :: s4 :: s5 :: s6 :: s7 :: s8 :: s9 :: s10 :: s11 :: s12 :: s13 :: some (.ow (n && m) (ds.set j.toNat d)) :: r)) := by
  unfold siK; rw [show gt (s0 :: s1 :: s2 :: s3 :: s4 :: s5 :: s6 :: s7 :: s8 :: s9 :: s10 :: s11 :: s12 :: s13 :: some (.ow n ds) :: r) 14 = some (.ow n ds) from rfl, setS_ow, ixN_in z]; rfl
@[simp ↓] theorem aOm_14 {s0 s1 s2 s3 s4 s5 s6 s7 s8 s9 s10 s11 s12 s13 : Option Sl} : apK 14 (s0 :: s1 :: s2 :: s3 :: s4 :: s5 :: s6 :: s7 :: s8 :: s9 :: s10 :: s11 :: s12 :: s13 :: some (.ow n (xs.map c)) :: r) m (c z) h kO = grd (decide (xs.length < 1000000)) (kO (.nx (s0 :: s1 :: s2 :: s3 :: s4 :: s5 :: s6 :: s7 :: s8 :: s9 :: s10 :: s11 :: s12 :: s13 :: some (.ow (n && m) ((xs ++ [z]).map c)) :: r))) := by
  rw [aO_14, List.length_map, map_snoc]
@[simp ↓] theorem sOm_14 {s0 s1 s2 s3 s4 s5 s6 s7 s8 s9 s10 s11 s12 s13 : Option Sl} (q : 0 ≤ j ∧ j < xs.length) : siK 14 (s0 :: s1 :: s2 :: s3 :: s4 :: s5 :: s6 :: s7 :: s8 :: s9 :: s10 :: s11 :: s12 :: s13 :: some (.ow n (xs.map c)) :: r) m (c z) (.int j) h kO = kO (.nx (s0 :: s1 :: s2 :: s3 :: s4 :: s5 :: s6 :: s7 :: s8 :: s9 :: s10 :: s11 :: s12 :: s13 :: some (.ow (n && m) ((ist xs j z).map c)) :: r)) := by
  rw [sO_14 (by rw [List.length_map]; exact q), map_set]; rfl
@[simp ↓] theorem eS_15 {s0 s1 s2 s3 s4 s5 s6 s7 s8 s9 s10 s11 s12 s13 s14 : Option Sl} : cE (fVar 15) (s0 :: s1 :: s2 :: s3 :: s4 :: s5 :: s6 :: s7 :: s8 :: s9 :: s10 :: s11 :: s12 :: s13 :: s14 :: some (.sh n d) :: r) h kE = kE (s0 :: s1 :: s2 :: s3 :: s4 :: s5 :: s6 :: s7 :: s8 :: s9 :: s10 :: s11 :: s12 :: s13 :: s14 :: some (.sh n d) :: r) (.sh n d) := id rfl
@[simp ↓] theorem eO_15 {s0 s1 s2 s3 s4 s5 s6 s7 s8 s9 s10 s11 s12 s13 s14 : Option Sl} : cE (fVar 15) (s0 :: s1 :: s2 :: s3 :: s4 :: s5 :: s6 :: s7 :: s8 :: s9 :: s10 :: s11 :: s12 :: s13 :: s14 :: some (.ow n ds) :: r) h kE = kE (s0 :: s1 :: s2 :: s3 :: s4 :: s5 :: s6 :: s7 :: s8 :: s9 :: s10 :: s11 :: s12 :: s13 :: s14 :: some (.ow n ds) :: r) (.own 15) := id rfl
@[simp ↓] theorem eSl_15 {s0 s1 s2 s3 s4 s5 s6 s7 s8 s9 s10 s11 s12 s13 s14 : Option Sl} : cE (fVar 15) (lent (s0 :: s1 :: s2 :: s3 :: s4 :: s5 :: s6 :: s7 :: s8 :: s9 :: s10 :: s11 :: s12 :: s13 :: s14 :: some (.sh n d) :: r)) h kE = kE (lent (s0 :: s1 :: s2 :: s3 :: s4 :: s5 :: s6 :: s7 :: s8 :: s9 :: s10 :: s11 :: s12 :: s13 :: s14 :: some (.sh n d) :: r)) (.sh n d) := id rfl
@[simp ↓] theorem eOl_15 {s0 s1 s2 s3 s4 s5 s6 s7 s8 s9 s10 s11 s12 s13 s14 : Option Sl} : cE (fVar 15) (lent (s0 :: s1 :: s2 :: s3 :: s4 :: s5 :: s6 :: s7 :: s8 :: s9 :: s10 :: s11 :: s12 :: s13 :: s14 :: some (.ow n ds) :: r)) h kE = kE (lent (s0 :: s1 :: s2 :: s3 :: s4 :: s5 :: s6 :: s7 :: s8 :: s9 :: s10 :: s11 :: s12 :: s13 :: s14 :: some (.ow n ds) :: r)) (.sh n (.list ds)) := id rfl
@[simp ↓] theorem vS_15 {s0 s1 s2 s3 s4 s5 s6 s7 s8 s9 s10 s11 s12 s13 s14 : Option Sl} : cV (rd (fVar 15)) (s0 :: s1 :: s2 :: s3 :: s4 :: s5 :: s6 :: s7 :: s8 :: s9 :: s10 :: s11 :: s12 :: s13 :: s14 :: some (.sh n d) :: r) h kV = kV (s0 :: s1 :: s2 :: s3 :: s4 :: s5 :: s6 :: s7 :: s8 :: s9 :: s10 :: s11 :: s12 :: s13 :: s14 :: some (.sh n d) :: r) n d := id rfl
@[simp ↓] theorem vO_15 {s0 s1 s2 s3 s4 s5 s6 s7 s8 s9 s10 s11 s12 s13 s14 : Option Sl} : cV (rd (fVar 15)) (s0 :: s1 :: s2 :: s3 :: s4 :: s5 :: s6 :: s7 :: s8 :: s9 :: s10 :: s11 :: s12 :: s13 :: s14 :: some (.ow n ds) :: r) h kV = kV (s0 :: s1 :: s2 :: s3 :: s4 :: s5 :: s6 :: s7 :: s8 :: s9 :: s10 :: s11 :: s12 :: s13 :: s14 :: some (.ow n ds) :: r) n (.list ds) := id rfl
@[simp ↓] theorem vSl_15 {s0 s1 s2 s3 s4 s5 s6 s7 s8 s9 s10 s11 s12 s13 s14 : Option Sl} : cV (rd (fVar 15)) (lent (s0 :: s1 :: s2 :: s3 :: s4 :: s5 :: s6 :: s7 :: s8 :: s9 :: s10 :: s11 :: s12 :: s13 :: s14 :: some (.sh n d) :: r)) h kV = kV (lent (s0 :: s1 :: s2 :: s3 :: s4 :: s5 :: s6 :: s7 :: s8 :: s9 :: s10 :: s11 :: s12 :: s13 :: s14 :: some (.sh n d) :: r)) n d := id rfl
@[simp ↓] theorem vOl_15 {s0 s1 s2 s3 s4 s5 s6 s7 s8 s9 s10 s11 s12 s13 s14 : Option Sl} : cV (rd (fVar 15)) (lent (s0 :: s1 :: s2 :: s3 :: s4 :: s5 :: s6 :: s7 :: s8 :: s9 :: s10 :: s11 :: s12 :: s13 :: s14 :: some (.ow n ds) :: r)) h kV = kV (lent (s0 :: s1 :: s2 :: s3 :: s4 :: s5 :: s6 :: s7 :: s8 :: s9 :: s10 :: s11 :: s12 :: s13 :: s14 :: some (.ow n ds) :: r)) n (.list ds) := id rfl
@[simp ↓] theorem kS_15 {s0 s1 s2 s3 s4 s5 s6 s7 s8 s9 s10 s11 s12 s13 s14 : Option Sl} : cV (st (fVar 15)) (s0 :: s1 :: s2 :: s3 :: s4 :: s5 :: s6 :: s7 :: s8 :: s9 :: s10 :: s11 :: s12 :: s13 :: s14 :: some (.sh n d) :: r) h kV = kV (s0 :: s1 :: s2 :: s3 :: s4 :: s5 :: s6 :: s7 :: s8 :: s9 :: s10 :: s11 :: s12 :: s13 :: s14 :: some (.sh n d) :: r) n d := id rfl
@[simp ↓] theorem kO_15 {s0 s1 s2 s3 s4 s5 s6 s7 s8 s9 s10 s11 s12 s13 s14 : Option Sl} : cV (st (fVar 15)) (s0 :: s1 :: s2 :: s3 :: s4 :: s5 :: s6 :: s7 :: s8 :: s9 :: s10 :: s11 :: s12 :: s13 :: s14 :: some (.ow n ds) :: r) h kV = kV (s0 :: s1 :: s2 :: s3 :: s4 :: s5 :: s6 :: s7 :: s8 :: s9 :: s10 :: s11 :: s12 :: s13 :: s14 :: some (.sh n (.list ds)) :: r) n (.list ds) := id rfl
@[simp ↓] theorem kSl_15 {s0 s1 s2 s3 s4 s5 s6 s7 s8 s9 s10 s11 s12 s13 s14 : Option Sl} : cV (st (fVar 15)) (lent (s0 :: s1 :: s2 :: s3 :: s4 :: s5 :: s6 :: s7 :: s8 :: s9 :: s10 :: s11 :: s12 :: s13 :: s14 :: some (.sh n d) :: r)) h kV = kV (lent (s0 :: s1 :: s2 :: s3 :: s4 :: s5 :: s6 :: s7 :: s8 :: s9 :: s10 :: s11 :: s12 :: s13 :: s14 :: some (.sh n d) :: r)) n d := id rfl
@[simp ↓] theorem kOl_15 {s0 s1 s2 s3 s4 s5 s6 s7 s8 s9 s10 s11 s12 s13 s14 : Option Sl} : cV (st (fVar 15)) (lent (s0 :: s1 :: s2 :: s3 :: s4 :: s5 :: s6 :: s7 :: s8 :: s9 :: s10 :: s11 :: s12 :: s13 :: s14 :: some (.ow n ds) :: r)) h kV = kV (lent (s0 :: s1 :: s2 :: s3 :: s4 :: s5 :: s6 :: s7 :: s8 :: s9 :: s10 :: s11 :: s12 :: s13 :: s14 :: some (.sh n (.list ds)) :: r)) n (.list ds) := id rfl
@[simp ↓] theorem p_15 {s0 s1 s2 s3 s4 s5 s6 s7 s8 s9 s10 s11 s12 s13 s14 : Option Sl} : cP 15 (s0 :: s1 :: s2 :: s3 :: s4 :: s5 :: s6 :: s7 :: s8 :: s9 :: s10 :: s11 :: s12 :: s13 :: s14 :: x :: r) y kP = kP (s0 :: s1 :: s2 :: s3 :: s4 :: s5 :: s6 :: s7 :: s8 :: s9 :: s10 :: s11 :: s12 :: s13 :: s14 :: y :: r) := id rfl
@[simp ↓] theorem rO_15 {s0 s1 s2 s3 s4 s5 s6 s7 s8 s9 s10 s11 s12 s13 s14 : Option Sl} : reK (s0 :: s1 :: s2 :: s3 :: s4 :: s5 :: s6 :: s7 :: s8 :: s9 :: s10 :: s11 :: s12 :: s13 :: s14 :: some (.ow n ds) :: r) (.own 15) h kO = kO (.rt (.nw n ds)) := id rfl
@[simp ↓] theorem iO_15 {s0 s1 s2 s3 s4 s5 s6 s7 s8 s9 s10 s11 s12 s13 s14 : Option Sl} {z : Rs β} : grd (isOw (gt (s0 :: s1 :: s2 :: s3 :: s4 :: s5 :: s6 :: s7 :: s8 :: s9 :: s10 :: s11 :: s12 :: s13 :: s14 :: some (.ow n ds) :: r) 15)) z = z := id rfl
@[simp ↓] theorem rdO_15 {s0 s1 s2 s3 s4 s5 s6 s7 s8 s9 s10 s11 s12 s13 s14 : Option Sl} : rdK (s0 :: s1 :: s2 :: s3 :: s4 :: s5 :: s6 :: s7 :: s8 :: s9 :: s10 :: s11 :: s12 :: s13 :: s14 :: some (.ow n ds) :: r) (.own 15) h kV = kV (s0 :: s1 :: s2 :: s3 :: s4 :: s5 :: s6 :: s7 :: s8 :: s9 :: s10 :: s11 :: s12 :: s13 :: s14 :: some (.ow n ds) :: r) n (.list ds) := id rfl
@[simp ↓] theorem stO_15 {s0 s1 s2 s3 s4 s5 s6 s7 s8 s9 s10 s11 s12 s13 s14 : Option Sl} : stK (s0 :: s1 :: s2 :: s3 :: s4 :: s5 :: s6 :: s7 :: s8 :: s9 :: s10 :: s11 :: s12 :: s13 :: s14 :: some (.ow n ds) :: r) (.own 15) h kV = kV (s0 :: s1 :: s2 :: s3 :: s4 :: s5 :: s6 :: s7 :: s8 :: s9 :: s10 :: s11 :: s12 :: s13 :: s14 :: some (.sh n (.list ds)) :: r) n (.list ds) := id rfl
@[simp ↓] theorem pO_15 {s0 s1 s2 s3 s4 s5 s6 s7 s8 s9 s10 s11 s12 s13 s14 : Option Sl} {i : Nat} : puK i (s0 :: s1 :: s2 :: s3 :: s4 :: s5 :: s6 :: s7 :: s8 :: s9 :: s10 :: s11 :: s12 :: s13 :: s14 :: some (.ow n ds) :: r) (.own 15) h kP = cP i (s0 :: s1 :: s2 :: s3 :: s4 :: s5 :: s6 :: s7 :: s8 :: s9 :: s10 :: s11 :: s12 :: s13 :: s14 :: some (.sh n (.list ds)) :: r) (some (.sh n (.list ds))) kP := id rfl
@[simp ↓ low] theorem aO_15 {s0 s1 s2 s3 s4 s5 s6 s7 s8 s9 s10 s11 s12 s13 s14 : Option Sl} : apK 15 (s0 :: s1 :: s2 :: s3 :: s4 :: s5 :: s6 :: s7 :: s8 :: s9 :: s10 :: s11 :: s12 :: s13 :: s14 :: some (.ow n ds) :: r) m d h kO = grd (decide (ds.length < 1000000)) (kO (.nx (s0 :: s1 :: s2 :: s3 :: s4 :: s5 :: s6 :: s7 :: s8 :: s9 :: s10 :: s11 :: s12 :: s13 :: s14 :: some (.ow (n && m) (ds ++ [d])) :: r))) := by
  exact on_grd _ _ _ _
@[simp ↓ low] theorem sO_15 {s0 s1 s2 s3 s4 s5 s6 s7 s8 s9 s10 s11 s12 s13 s14 : Option Sl} (z : 0 ≤ j ∧ j < ds.length) : siK 15 (s0 :: s1 :: s2 :: s3 :: s4 :: s5 :: s6 :: s7 :: s8 :: s9 :: s10 :: s11 :: s12 :: s13 :: s14 :: some (.ow n ds) :: r) m d (.int j) h kO = kO (.nx (s0 :: s1 :: s2 :: s3 :: s4 :: s5 :: s6 :: s7 :: s8 :: s9 :: s10 :: s11 :: s12 :: s13 :: s14 :: some (.ow (n && m) (ds.set j.toNat d)) :: r)) := by
  unfold siK; rw [show gt (s0 :: s1 :: s2 :: s3 :: s4 :: s5 :: s6 :: s7 :: s8 :: s9 :: s10 :: s11 :: s12 :: s13 :: s14 :: some (.ow n ds) :: r) 15 = some (.ow n ds) from rfl, setS_ow, ixN_in z]; rfl
@[simp ↓] theorem aOm_15 {s0 s1 s2 s3 s4 s5 s6 s7 s8 s9 s10 s11 s12 s13 s14 : Option Sl} : apK 15 (s0 :: s1 :: s2 :: s3 :: s4 :: s5 :: s6 :: s7 :: s8 :: s9 :: s10 :: s11 :: s12 :: s13 :: s14 :: some (.ow n (xs.map c)) :: r) m (c z) h kO = grd (decide (xs.length < 1000000)) (kO (.nx (s0 :: s1 :: s2 :: s3 :: s4 :: s5 :: s6 :: s7 :: s8 :: s9 :: s10 :: s11 :: s12 :: s13 :: s14 :: some (.ow (n && m) ((xs ++ [z]).map c)) :: r))) := by
  rw [aO_15, List.length_map, map_snoc]
@[simp ↓] theorem sOm_15 {s0 s1 s2 s3 s4 s5 s6 s7 s8 s9 s10 s11 s12 s13 s14 : Option Sl} (q : 0 ≤ j ∧ j < xs.length) : siK 15 (s0 :: s1 :: s2 :: s3 :: s4 :: s5 :: s6 :: s7 :: s8 :: s9 :: s10 :: s11 :: s12 :: s13 :: s14 :: some (.ow n (xs.map c)) :: r) m (c z) (.int j) h kO = kO (.nx (s0 :: s1 :: s2 :: s3 :: s4 :: s5 :: s6 :: s7 :: s8 :: s9 :: s10 :: s11 :: s12 :: s13 :: s14 :: some (.ow (n && m) ((ist xs j z).map c)) :: r)) := by
  rw [sO_15 (by rw [List.length_map]; exact q), map_set]; rfl
@[simp ↓] theorem eS_16 {s0 s1 s2 s3 s4 s5 s6 s7 s8 s9 s10 s11 s12 s13 s14 s15 : Option Sl} : cE (fVar 16) (s0 :: s1 :: s2 :: s3 :: s4 :: s5 :: s6 :: s7 :: s8 :: s9 :: s10 :: s11 :: s12 :: s13 :: s14 :: s15 :: some (.sh n d) :: r) h kE = kE (s0 :: s1 :: s2 :: s3 :: s4 :: s5 :: s6 :: s7 :: s8 :: s9 :: s10 :: s11 :: s12 :: s13 :: s14 :: s15 :: some (.sh n d) :: r) (.sh n d) := id rfl
@[simp ↓] theorem eO_16 {s0 s1 s2 s3 s4 s5 s6 s7 s8 s9 s10 s11 s12 s13 s14 s15 : Option Sl} : cE (fVar 16) (s0 :: s1 :: s2 :: s3 :: s4 :: s5 :: s6 :: s7 :: s8 :: s9 :: s10 :: s11 :: s12 :: s13 :: s14 :: s15 :: some (.ow n ds) :: r) h kE = kE (s0 :: s1 :: s2 :: s3 :: s4 :: s5 :: s6 :: s7 :: s8 :: s9 :: s10 :: s11 :: s12 :: s13 :: s14 :: s15 :: some (.ow n ds) :: r) (.own 16) := id rfl
@[simp ↓] theorem eSl_16 {s0 s1 s2 s3 s4 s5 s6 s7 s8 s9 s10 s11 s12 s13 s14 s15 : Option Sl} : cE (fVar 16) (lent (s0 :: s1 :: s2 :: s3 :: s4 :: s5 :: s6 :: s7 :: s8 :: s9 :: s10 :: s11 :: s12 :: s13 :: s14 :: s15 :: some (.sh n d) :: r)) h kE = kE (lent (s0 :: s1 :: s2 :: s3 :: s4 :: s5 :: s6 :: s7 :: s8 :: s9 :: s10 :: s11 :: s12 :: s13 :: s14 :: s15 :: some (.sh n d) :: r)) (.sh n d) := id rfl
@[simp ↓] theorem eOl_16 {s0 s1 s2 s3 s4 s5 s6 s7 s8 s9 s10 s11 s12 s13 s14 s15 : Option Sl} : cE (fVar 16) (lent (s0 :: s1 :: s2 :: s3 :: s4 :: s5 :: s6 :: s7 :: s8 :: s9 :: s10 :: s11 :: s12 :: s13 :: s14 :: s15 :: some (.ow n ds) :: r)) h kE = kE (lent (s0 :: s1 :: s2 :: s3 :: s4 :: s5 :: s6 :: s7 :: s8 :: s9 :: s10 :: s11 :: s12 :: s13 :: s14 :: s15 :: some (.ow n ds) :: r)) (.sh n (.list ds)) := id rfl
@[simp ↓] theorem vS_16 {s0 s1 s2 s3 s4 s5 s6 s7 s8 s9 s10 s11 s12 s13 s14 s15 : Option Sl} : cV (rd (fVar 16)) (s0 :: s1 :: s2 :: s3 :: s4 :: s5 :: s6 :: s7 :: s8 :: s9 :: s10 :: s11 :: s12 :: s13 :: s14 :: s15 :: some (.sh n d) :: r) h kV = kV (s0 :: s1 :: s2 :: s3 :: s4 :: s5 :: s6 :: s7 :: s8 :: s9 :: s10 :: s11 :: s12 :: s13 :: s14 :: s15 :: some (.sh n d) :: r) n d := id rfl
@[simp ↓] theorem vO_16 {s0 s1 s2 s3 s4 s5 s6 s7 s8 s9 s10 s11 s12 s13 s14 s15 : Option Sl} : cV (rd (fVar 16)) (s0 :: s1 :: s2 :: s3 :: s4 :: s5 :: s6 :: s7 :: s8 :: s9 :: s10 :: s11 :: s12 :: s13 :: s14 :: s15 :: some (.ow n ds) :: r) h kV = kV (s0 :: s1 :: s2 :: s3 :: s4 :: s5 :: s6 :: s7 :: s8 :: s9 :: s10 :: s11 :: s12 :: s13 :: s14 :: s15 :: some (.ow n ds) :: r) n (.list ds) := id rfl
@[simp ↓] theorem vSl_16 {s0 s1 s2 s3 s4 s5 s6 s7 s8 s9 s10 s11 s12 s13 s14 s15 : Option Sl} : cV (rd (fVar 16)) (lent (s0 :: s1 :: s2 :: s3 :: s4 :: s5 :: s6 :: s7 :: s8 :: s9 :: s10 :: s11 :: s12 :: s13 :: s14 :: s15 :: some (.sh n d) :: r)) h kV = kV (lent (s0 :: s1 :: s2 :: s3 :: s4 :: s5 :: s6 :: s7 :: s8 :: s9 :: s10 :: s11 :: s12 :: s13 :: s14 :: s15 :: some (.sh n d) :: r)) n d := id rfl
@[simp ↓] theorem vOl_16 {s0 s1 s2 s3 s4 s5 s6 s7 s8 s9 s10 s11 s12 s13 s14 s15 : Option Sl} : cV (rd (fVar 16)) (lent (s0 :: s1 :: s2 :: s3 :: s4 :: s5 :: s6 :: s7 :: s8 :: s9 :: s10 :: s11 :: s12 :: s13 :: s14 :: s15 :: some (.ow n ds) :: r)) h kV = kV (lent (s0 :: s1 :: s2 :: s3 :: s4 :: s5 :: s6 :: s7 :: s8 :: s9 :: s10 :: s11 :: s12 :: s13 :: s14 :: s15 :: some (.ow n ds) :: r)) n (.list ds) := id rfl
@[simp ↓] theorem kS_16 {s0 s1 s2 s3 s4 s5 s6 s7 s8 s9 s10 s11 s12 s13 s14 s15 : Option Sl} : cV (st (fVar 16)) (s0 :: s1 :: s2 :: s3 :: s4 :: s5 :: s6 :: s7 :: s8 :: s9 :: s10 :: s11 :: s12 :: s13 :: s14 :: s15 :: some (.sh n d) :: r) h kV = kV (s0 :: s1 :: s2 :: s3 :: s4 :: s5 :: s6 :: s7 :: s8 :: s9 :: s10 :: s11 :: s12 :: s13 :: s14 :: s15 :: some (.sh n d) :: r) n d := id rfl
@[simp ↓] theorem kO_16 {s0 s1 s2 s3 s4 s5 s6 s7 s8 s9 s10 s11 s12 s13 s14 s15 : Option Sl} : cV (st (fVar 16)) (s0 :: s1 :: s2 :: s3 :: s4 :: s5 :: s6 :: s7 :: s8 :: s9 :: s10 :: s11 :: s12 :: s13 :: s14 :: s15 :: some (.ow n ds) :: r) h kV = kV (s0 :: s1 :: s2 :: s3 :: s4 :: s5 :: s6 :: s7 :: s8 :: s9 :: s10 :: s11 :: s12 :: s13 :: s14 :: s15 :: some (.sh n (.list ds)) :: r) n (.list ds) := id rfl
@[simp ↓] theorem kSl_16 {s0 s1 s2 s3 s4 s5 s6 s7 s8 s9 s10 s11 s12 s13 s14 s15 : Option Sl} : cV (st (fVar 16)) (lent (s0 :: s1 :: s2 :: s3 :: s4 :: s5 :: s6 :: s7 :: s8 :: s9 :: s10 :: s11 :: s12 :: s13 :: s14 :: s15 :: some (.sh n d) :: r)) h kV = kV (lent (s0 :: s1 :: s2 :: s3 :: s4 :: s5 :: s6 :: s7 :: s8 :: s9 :: s10 :: s11 :: s12 :: s13 :: s14 :: s15 :: some (.sh n d) :: r)) n d := id rfl
@[simp ↓] theorem kOl_16 {s0 s1 s2 s3 s4 s5 s6 s7 s8 s9 s10 s11 s12 s13 s14 s15 : Option Sl} : cV (st (fVar 16)) (lent (s0 :: s1 :: s2 :: s3 :: s4 :: s5 :: s6 :: s7 :: s8 :: s9 :: s10 :: s11 :: s12 :: s13 :: s14 :: s15 :: some (.ow n ds) :: r)) h kV = kV (lent (s0 :: s1 :: s2 :: s3 :: s4 :: s5 :: s6 :: s7 :: s8 :: s9 :: s10 :: s11 :: s12 :: s13 :: s14 :: s15 :: some (.sh n (.list ds)) :: r)) n (.list ds) := id rfl
@[simp ↓] theorem p_16 {s0 s1 s2 s3 s4 s5 s6 s7 s8 s9 s10 s11 s12 s13 s14 s15 : Option Sl} : cP 16 (s0 :: s1 :: s2 :: s3 :: s4 :: s5 :: s6 :: s7 :: s8 :: s9 :: s10 :: s11 :: s12 :: s13 :: s14 :: s15 :: x :: r) y kP = kP (s0 :: s1 :: s2 :: s3 :: s4 :: s5 :: s6 :: s7 :: s8 :: s9 :: s10 :: s11 :: s12 :: s13 :: s14 :: s15 :: y :: r) := id rfl
@[simp ↓] theorem rO_16 {s0 s1 s2 s3 s4 s5 s6 s7 s8 s9 s10 s11 s12 s13 s14 s15 : Option Sl} : reK (s0 :: s1 :: s2 :: s3 :: s4 :: s5 :: s6 :: s7 :: s8 :: s9 :: s10 :: s11 :: s12 :: s13 :: s14 :: s15 :: some (.ow n ds) :: r) (.own 16) h kO = kO (.rt (.nw n ds)) := id rfl
@[simp ↓] theorem iO_16 {s0 s1 s2 s3 s4 s5 s6 s7 s8 s9 s10 s11 s12 s13 s14 s15 : Option Sl} {z : Rs β} : grd (isOw (gt (s0 :: s1 :: s2 :: s3 :: s4 :: s5 :: s6 :: s7 :: s8 :: s9 :: s10 :: s11 :: s12 :: s13 :: s14 :: s15 :: some (.ow n ds) :: r) 16)) z = z := id rfl
@[simp ↓] theorem rdO_16 {s0 s1 s2 s3 s4 s5 s6 s7 s8 s9 s10 s11 s12 s13 s14 s15 : Option Sl} : rdK (s0 :: s1 :: s2 :: s3 :: s4 :: s5 :: s6 :: s7 :: s8 :: s9 :: s10 :: s11 :: s12 :: s13 :: s14 :: s15 :: some (.ow n ds) :: r) (.own 16) h kV = kV (s0 :: s1 :: s2 :: s3 :: s4 :: s5 :: s6 :: s7 :: s8 :: s9 :: s10 :: s11 :: s12 :: s13 :: s14 :: s15 :: some (.ow n ds) :: r) n (.list ds) := id rfl
@[simp ↓] theorem stO_16 {s0 s1 s2 s3 s4 s5 s6 s7 s8 s9 s10 s11 s12 s13 s14 s15 : Option Sl} : stK (s0 :: s1 :: s2 :: s3 :: s4 :: s5 :: s6 :: s7 :: s8 :: s9 :: s10 :: s11 :: s12 :: s13 :: s14 :: s15 :: some (.ow n ds) :: r) (.own 16) h kV = kV (s0 :: s1 :: s2 :: s3 :: s4 :: s5 :: s6 :: s7 :: s8 :: s9 :: s10 :: s11 :: s12 :: s13 :: s14 :: s15 :: some (.sh n (.list ds)) :: r) n (.list ds) := id rfl
@[simp ↓] theorem pO_16 {s0 s1 s2 s3 s4 s5 s6 s7 s8 s9 s10 s11 s12 s13 s14 s15 : Option Sl} {i : Nat} : puK i (s0 :: s1 :: s2 :: s3 :: s4 :: s5 :: s6 :: s7 :: s8 :: s9 :: s10 :: s11 :: s12 :: s13 :: s14 :: s15 :: some (.ow n ds) :: r) (.own 16) h kP = cP i (s0 :: s1 :: s2 :: s3 :: s4 :: s5 :: s6 :: s7 :: s8 :: s9 :: s10 :: s11 :: s12 :: s13 :: s14 :: s15 :: some (.sh n (.list ds)) :: r) (some (.sh n (.list ds))) kP := id rfl
@[simp ↓ low] theorem aO_16 {s0 s1 s2 s3 s4 s5 s6 s7 s8 s9 s10 s11 s12 s13 s14 s15 : Option Sl} : apK 16 (s0 :: s1 :: s2 :: s3 :: s4 :: s5 :: s6 :: s7 :: s8 :: s9 :: s10 :: s11 :: s12 :: s13 :: s14 :: s15 :: some (.ow n ds) :: r) m d h kO = grd (decide (ds.length < 1000000)) (kO (.nx (s0 :: s1 :: s2 :: s3 :: s4 :: s5 :: s6 :: s7 :: s8 :: s9 :: s10 :: s11 :: s12 :: s13 :: s14 :: s15 :: some (.ow (n && m) (ds ++ [d])) :: r))) := by
  exact on_grd _ _ _ _
@[simp ↓ low] theorem sO_16 {s0 s1 s2 s3 s4 s5 s6 s7 s8 s9 s10 s11 s12 s13 s14 s15 : Option Sl} (z : 0 ≤ j ∧ j < ds.length) : siK 16 (s0 :: s1 :: s2 :: s3 :: s4 :: s5 :: s6 :: s7 :: s8 :: s9 :: s10 :: s11 :: s12 :: s13 :: s14 :: s15 :: some (.ow n ds) :: r) m d (.int j) h kO = kO (.nx (s0 :: s1 :: s2 :: s3 :: s4 :: s5 :: s6 :: s7 :: s8 :: s9 :: s10 :: s11 :: s12 :: s13 :: s14 :: s15 :: some (.ow (n && m) (ds.set j.toNat d)) :: r)) := by
  unfold siK; rw [show gt (s0 :: s1 :: s2 :: s3 :: s4 :: s5 :: s6 :: s7 :: s8 :: s9 :: s10 :: s11 :: s12 :: s13 :: s14 :: s15 :: some (.ow n ds) :: r) 16 = some (.ow n ds) from rfl, setS_ow, ixN_in z]; rfl
@[simp ↓] theorem aOm_16 {s0 s1 s2 s3 s4 s5 s6 s7 s8 s9 s10 s11 s12 s13 s14 s15 : Option Sl} : apK 16 (s0 :: s1 :: s2 :: s3 :: s4 :: s5 :: s6 :: s7 :: s8 :: s9 :: s10 :: s11 :: s12 :: s13 :: s14 :: s15 :: some (.ow n (xs.map c)) :: r) m (c z) h kO = grd (decide (xs.length < 1000000)) (kO (.nx (s0 :: s1 :: s2 :: s3 :: s4 :: s5 :: s6 :: s7 :: s8 :: s9 :: s10 :: s11 :: s12 :: s13 :: s14 :: s15 :: some (.ow (n && m) ((xs ++ [z]).map c)) :: r))) := by
  rw [aO_16, List.length_map, map_snoc]
@[simp ↓] theorem sOm_16 {s0 s1 s2 s3 s4 s5 s6 s7 s8 s9 s10 s11 s12 s13 s14 s15 : Option Sl} (q : 0 ≤ j ∧ j < xs.length) : siK 16 (s0 :: s1 :: s2 :: s3 :: s4 :: s5 :: s6 :: s7 :: s8 :: s9 :: s10 :: s11 :: s12 :: s13 :: s14 :: s15 :: some (.ow n (xs.map c)) :: r) m (c z) (.int j) h kO = kO (.nx (s0 :: s1 :: s2 :: s3 :: s4 :: s5 :: s6 :: s7 :: s8 :: s9 :: s10 :: s11 :: s12 :: s13 :: s14 :: s15 :: some (.ow (n && m) ((ist xs j z).map c)) :: r)) := by
  rw [sO_16 (by rw [List.length_map]; exact q), map_set]; rfl
@[simp ↓] theorem eS_17 {s0 s1 s2 s3 s4 s5 s6 s7 s8 s9 s10 s11 s12 s13 s14 s15 s16 : Option Sl} : cE (fVar 17) (s0 :: s1 :: s2 :: s3 :: s4 :: s5 :: s6 :: s7 :: s8 :: s9 :: s10 :: s11 :: s12 :: s13 :: s14 :: s15 :: s16 :: some (.sh n d) :: r) h kE = kE (s0 :: s1 :: s2 :: s3 :: s4 :: s5 :: s6 :: s7 :: s8 :: s9 :: s10 :: s11 :: s12 :: s13 :: s14 :: s15 :: s16 :: some (.sh n d) :: r) (.sh n d) := id rfl
@[simp ↓] theorem eO_17 {s0 s1 s2 s3 s4 s5 s6 s7 s8 s9 s10 s11 s12 s13 s14 s15 s16 : Option Sl} : cE (fVar 17) (s0 :: s1 :: s2 :: s3 :: s4 :: s5 :: s6 :: s7 :: s8 :: s9 :: s10 :: s11 :: s12 :: s13 :: s14 :: s15 :: s16 :: some (.ow n ds) :: r) h kE = kE (s0 :: s1 :: s2 :: s3 :: s4 :: s5 :: s6 :: s7 :: s8 :: s9 :: s10 :: s11 :: s12 :: s13 :: s14 :: s15 :: s16 :: some (.ow n ds) :: r) (.own 17) := id rfl
@[simp ↓] theorem eSl_17 {s0 s1 s2 s3 s4 s5 s6 s7 s8 s9 s10 s11 s12 s13 s14 s15 s16 : Option Sl} : cE (fVar 17) (lent (s0 :: s1 :: s2 :: s3 :: s4 :: s5 :: s6 :: s7 :: s8 :: s9 :: s10 :: s11 :: s12 :: s13 :: s14 :: s15 :: s16 :: some (.sh n d) :: r)) h kE = kE (lent (s0 :: s1 :: s2 :: s3 :: s4 :: s5 :: s6 :: s7 :: s8 :: s9 :: s10 :: s11 :: s12 :: s13 :: s14 :: s15 :: s16 :: some (.sh n d) :: r)) (.sh n d) := id rfl
@[simp ↓] theorem eOl_17 {s0 s1 s2 s3 s4 s5 s6 s7 s8 s9 s10 s11 s12 s13 s14 s15 s16 : Option Sl} : cE (fVar 17) (lent (s0 :: s1 :: s2 :: s3 :: s4 :: s5 :: s6 :: s7 :: s8 :: s9 :: s10 :: s11 :: s12 :: s13 :: s14 :: s15 :: s16 :: some (.ow n ds) :: r)) h kE = kE (lent (s0 :: s1 :: s2 :: s3 :: s4 :: s5 :: s6 :: s7 :: s8 :: s9 :: s10 :: s11 :: s12 :: s13 :: s14 :: s15 :: s16 :: some (.ow n ds) :: r)) (.sh n (.list ds)) := id rfl
@[simp ↓] theorem vS_17 {s0 s1 s2 s3 s4 s5 s6 s7 s8 s9 s10 s11 s12 s13 s14 s15 s16 : Option Sl} : cV (rd (fVar 17)) (s0 :: s1 :: s2 :: s3 :: s4 :: s5 :: s6 :: s7 :: s8 :: s9 :: s10 :: s11 :: s12 :: s13 :: s14 :: s15 :: s16 :: some (.sh n d) :: r) h kV = kV (s0 :: s1 :: s2 :: s3 :: s4 :: s5 :: s6 :: s7 :: s8 :: s9 :: s10 :: s11 :: s12 :: s13 :: s14 :: s15 :: s16 :: some (.sh n d) :: r) n d := id rfl
@[simp ↓] theorem vO_17 {s0 s1 s2 s3 s4 s5 s6 s7 s8 s9 s10 s11 s12 s13 s14 s15 s16 : Option Sl} : cV (rd (fVar 17)) (s0 :: s1 :: s2 :: s3 :: s4 :: s5 :: s6 :: s7 :: s8 :: s9 :: s10 :: s11 :: s12 :: s13 :: s14 :: s15 :: s16 :: some (.ow n ds) :: r) h kV = kV (s0 :: s1 :: s2 :: s3 :: s4 :: s5 :: s6 :: s7 :: s8 :: s9 :: s10 :: s11 :: s12 :: s13 :: s14 :: s15 :: s16 :: some (.ow n ds) :: r) n (.list ds) := id rfl
@[simp ↓] theorem vSl_17 {s0 s1 s2 s3 s4 s5 s6 s7 s8 s9 s10 s11 s12 s13 s14 s15 s16 : Option Sl} : cV (rd (fVar 17)) (lent (s0 :: s1 :: s2 :: s3 :: s4 :: s5 :: s6 :: s7 :: s8 :: s9 :: s10 :: s11 :: s12 :: s13 :: s14 :: s15 :: s16 :: some (.sh n d) :: r)) h kV = kV (lent (s0 :: s1 :: s2 :: s3 :: s4 :: s5 :: s6 :: s7 :: s8 :: s9 :: s10 :: s11 :: s12 :: s13 :: s14 :: s15 :: s16 :: some (.sh n d) :: r)) n d := id rfl
@[simp ↓] theorem vOl_17 {s0 s1 s2 s3 s4 s5 s6 s7 s8 s9 s10 s11 s12 s13 s14 s15 s16 : Option Sl} : cV (rd (fVar 17)) (lent (s0 :: s1 :: s2 :: s3 :: s4 :: s5 :: s6 :: s7 :: s8 :: s9 :: s10 :: s11 :: s12 :: s13 :: s14 :: s15 :: s16 :: some (.ow n ds) :: r)) h kV = kV (lent (s0 :: s1 :: s2 :: s3 :: s4 :: s5 :: s6 :: s7 :: s8 :: s9 :: s10 :: s11 :: s12 :: s13 :: s14 :: s15 :: s16 :: some (.ow n ds) :: r)) n (.list ds) := id rfl
@[simp ↓] theorem kS_17 {s0 s1 s2 s3 s4 s5 s6 s7 s8 s9 s10 s11 s12 s13 s14 s15 s16 : Option Sl} : cV (st (fVar 17)) (s0 :: s1 :: s2 :: s3 :: s4 :: s5 :: s6 :: s7 :: s8 :: s9 :: s10 :: s11 :: s12 :: s13 :: s14 :: s15 :: s16 :: some (.sh n d) :: r) h kV = kV (s0 :: s1 :: s2 :: s3 :: s4 :: s5 :: s6 :: s7 :: s8 :: s9 :: s10 :: s11 :: s12 :: s13 :: s14 :: s15 :: s16 :: some (.sh n d) :: r) n d := id rfl
@[simp ↓] theorem kO_17 {s0 s1 s2 s3 s4 s5 s6 s7 s8 s9 s10 s11 s12 s13 s14 s15 s16 : Option Sl} : cV (st (fVar 17)) (s0 :: s1 :: s2 :: s3 :: s4 :: s5 :: s6 :: s7 :: s8 :: s9 :: s10 :: s11 :: s12 :: s13 :: s14 :: s15 :: s16 :: some (.ow n ds) :: r) h kV = kV (s0 :: s1 :: s2 :: s3 :: s4 :: s5 :: s6 :: s7 :: s8 :: s9 :: s10 :: s11 :: s12 :: s13 :: s14 :: s15 :: s16 :: some (.sh n (.list ds)) :: r) n (.list ds) := id rfl
@[simp ↓] theorem kSl_17 {s0 s1 s2 s3 s4 s5 s6 s7 s8 s9 s10 s11 s12 s13 s14 s15 s16 : Option Sl} : cV (st (fVar 17)) (lent (s0 :: s1 :: s2 :: s3 :: s4 :: s5 :: s6 :: s7 :: s8 :: s9 :: s10 :: s11 :: s12 :: s13 :: s14 :: s15 :: s16 :: some (.sh n d) :: r)) h kV = kV (lent (s0 :: s1 :: s2 :: s3 :: s4 :: s5 :: s6 :: s7 :: s8 :: s9 :: s10 :: s11 :: s12 :: s13 :: s14 :: s15 :: s16 :: some (.sh n d) :: r)) n d := id rfl
@[simp ↓] theorem kOl_17 {s0 s1 s2 s3 s4 s5 s6 s7 s8 s9 s10 s11 s12 s13 s14 s15 s16 : Option Sl} : cV (st (fVar 17)) (lent (s0 :: s1 :: s2 :: s3 :: s4 :: s5 :: s6 :: s7 :: s8 :: s9 :: s10 :: s11 :: s12 :: s13 :: s14 :: s15 :: s16 :: some (.ow n ds) :: r)) h kV = kV (lent (s0 :: s1 :: s2 :: s3 :: s4 :: s5 :: s6 :: s7 :: s8 :: s9 :: s10 :: s11 :: s12 :: s13 :: s14 :: s15 :: s16 :: some (.sh n (.list ds)) :: r)) n (.list ds) := id rfl
@[simp ↓] theorem p_17 {s0 s1 s2 s3 s4 s5 s6 s7 s8 s9 s10 s11 s12 s13 s14 s15 s16 : Option Sl} : cP 17 (s0 :: s1 :: s2 :: s3 :: s4 :: s5 :: s6 :: s7 :: s8 :: s9 :: s10 :: s11 :: s12 :: s13 :: s14 :: s15 :: s16 :: x :: r) y kP = kP (s0 :: s1 :: s2 :: s3 :: s4 :: s5 :: s6 :: s7 :: s8 :: s9 :: s10 :: s11 :: s12 :: s13 :: s14 :: s15 :: s16 :: y :: r) := id rfl
@[simp ↓] theorem rO_17 {s0 s1 s2 s3 s4 s5 s6 s7 s8 s9 s10 s11 s12 s13 s14 s15 s16 : Option Sl} : reK (s0 :: s1 :: s2 :: s3 :: s4 :: s5 :: s6 :: s7 :: s8 :: s9 :: s10 :: s11 :: s12 :: s13 :: s14 :: s15 :: s16 :: some (.ow n ds) :: r) (.own 17) h kO = kO (.rt (.nw n ds)) := id rfl
@[simp ↓] theorem iO_17 {s0 s1 s2 s3 s4 s5 s6 s7 s8 s9 s10 s11 s12 s13 s14 s15 s16 : Option Sl} {z : Rs β} : grd (isOw (gt (s0 :: s1 :: s2 :: s3 :: s4 :: s5 :: s6 :: s7 :: s8 :: s9 :: s10 :: s11 :: s12 :: s13 :: s14 :: s15 :: s16 :: some (.ow n ds) :: r) 17)) z = z := id rfl
@[simp ↓] theorem rdO_17 {s0 s1 s2 s3 s4 s5 s6 s7 s8 s9 s10 s11 s12 s13 s14 s15 s16 : Option Sl} : rdK (s0 :: s1 :: s2 :: s3 :: s4 :: s5 :: s6 :: s7 :: s8 :: s9 :: s10 :: s11 :: s12 :: s13 :: s14 :: s15 :: s16 :: some (.ow n ds) :: r) (.own 17) h kV = kV (s0 :: s1 :: s2 :: s3 :: s4 :: s5 :: s6 :: s7 :: s8 :: s9 :: s10 :: s11 :: s12 :: s13 :: s14 :: s15 :: s16 :: some (.ow n ds) :: r) n (.list ds) := id rfl
@[simp ↓] theorem stO_17 {s0 s1 s2 s3 s4 s5 s6 s7 s8 s9 s10 s11 s12 s13 s14 s15 s16 : Option Sl} : stK (s0 :: s1 :: s2 :: s3 :: s4 :: s5 :: s6 :: s7 :: s8 :: s9 :: s10 :: s11 :: s12 :: s13 :: s14 :: s15 :: s16 :: some (.ow n ds) :: r) (.own 17) h kV = kV (s0 :: s1 :: s2 :: s3 :: s4 :: s5 :: s6 :: s7 :: s8 :: s9 :: s10 :: s11 :: s12 :: s13 :: s14 :: s15 :: s16 :: some (.sh n (.list ds)) :: r) n (.list ds) := id rfl
@[simp ↓] theorem pO_17 {s0 s1 s2 s3 s4 s5 s6 s7 s8 s9 s10 s11 s12 s13 s14 s15 s16 : Option Sl} {i : Nat} : puK i (s0 :: s1 :: s2 :: s3 :: s4 :: s5 :: s6 :: s7 :: s8 :: s9 :: s10 :: s11 :: s12 :: s13 :: s14 :: s15 :: s16 :: some (.ow n ds) :: r) (.own 17) h kP = cP i (s0 :: s1 :: s2 :: s3 :: s4 :: s5 :: s6 :: s7 :: s8 :: s9 :: s10 :: s11 :: s12 :: s13 :: s14 :: s15 :: s16 :: some (.sh n (.list ds)) :: r) (some (.sh n (.list ds))) kP := id rfl
@[simp ↓ low] theorem aO_17 {s0 s1 s2 s3 s4 s5 s6 s7 s8 s9 s10 s11 s12 s13 s14 s15 s16 : Option Sl} : apK 17 (s0 :: s1 :: s2 :: s3 :: s4 :: s5 :: s6 :: s7 :: s8 :: s9 :: s10 :: s11 :: s12 :: s13 :: s14 :: s15 :: s16 :: some (.ow n ds) :: r) m d h kO = grd (decide (ds.length < 1000000)) (kO (.nx (s0 :: s1 :: s2 :: s3 :: s4 :: s5 :: s6 :: s7 :: s8 :: s9 :: s10 :: s11 :: s12 :: s13 :: s14 :: s15 :: s16 :: some (.ow (n && m) (ds ++ [d])) :: r))) := by
  exact on_grd _ _ _ _
@[simp ↓ low] theorem sO_17 {s0 s1 s2 s3 s4 s5 s6 s7 s8 s9 s10 s11 s12 s13 s14 s15 s16 : Option Sl} (z : 0 ≤ j ∧ j < ds.length) : siK 17 (s0 :: s1 :: s2 :: s3 :: s4 :: s5 :: s6 :: s7 :: s8 :: s9 :: s10 :: s11 :: s12 :: s13 :: s14 :: s15 :: s16 :: some (.ow n ds) :: r) m d (.int j) h kO = kO (.nx (s0 :: s1 :: s2 :: s3 :: s4 :: s5 :: s6 :: s7 :: s8 :: s9 :: s10 :: s11 :: s12 :: s13 :: s14 :: s15 :: s16 :: some (.ow (n && m) (ds.set j.toNat d)) :: r)) := by
  unfold siK; rw [show gt (s0 :: s1 :: s2 :: s3 :: s4 :: s5 :: s6 :: s7 :: s8 :: s9 :: s10 :: s11 :: s12 :: s13 :: s14 :: s15 :: s16 :: some (.ow n ds) :: r) 17 = some (.ow n ds) from rfl, setS_ow, ixN_in z]; rfl
@[simp ↓] theorem aOm_17 {s0 s1 s2 s3 s4 s5 s6 s7 s8 s9 s10 s11 s12 s13 s14 s15 s16 : Option Sl} : apK 17 (s0 :: s1 :: s2 :: s3 :: s4 :: s5 :: s6 :: s7 :: s8 :: s9 :: s10 :: s11 :: s12 :: s13 :: s14 :: s15 :: s16 :: some (.ow n (xs.map c)) :: r) m (c z) h kO = grd (decide (xs.length < 1000000)) (kO (.nx (s0 :: s1 :: s2 :: s3 :: s4 :: s5 :: s6 :: s7 :: s8 :: s9 :: s10 :: s11 :: s12 :: s13 :: s14 :: s15 :: s16 :: some (.ow (n && m) ((xs ++ [z]).map c)) :: r))) := by
  rw [aO_17, List.length_map, map_snoc]
@[simp ↓] theorem sOm_17 {s0 s1 s2 s3 s4 s5 s6 s7 s8 s9 s10 s11 s12 s13 s14 s15 s16 : Option Sl} (q : 0 ≤ j ∧ j < xs.length) : siK 17 (s0 :: s1 :: s2 :: s3 :: s4 :: s5 :: s6 :: s7 :: s8 :: s9 :: s10 :: s11 :: s12 :: s13 :: s14 :: s15 :: s16 :: some (.ow n (xs.map c)) :: r) m (c z) (.int j) h kO = kO (.nx (s0 :: s1 :: s2 :: s3 :: s4 :: s5 :: s6 :: s7 :: s8 :: s9 :: s10 :: s11 :: s12 :: s13 :: s14 :: s15 :: s16 :: some (.ow (n && m) ((ist xs j z).map c)) :: r)) := by
  rw [sO_17 (by rw [List.length_map]; exact q), map_set]; rfl
@[simp ↓] theorem eS_18 {s0 s1 s2 s3 s4 s5 s6 s7 s8 s9 s10 s11 s12 s13 s14 s15 s16 s17 : Option Sl} : cE (fVar 18) (s0 :: s1 :: s2 :: s3 :: s4 :: s5 :: s6 :: s7 :: s8 :: s9 :: s10 :: s11 :: s12 :: s13 :: s14 :: s15 :: s16 :: s17 :: some (.sh n d) :: r) h kE = kE (s0 :: s1 :: s2 :: s3 :: s4 :: s5 :: s6 :: s7 :: s8 :: s9 :: s10 :: s11 :: s12 :: s13 :: s14 :: s15 :: s16 :: s17 :: some (.sh n d) :: r) (.sh n d) := id rfl
@[simp ↓] theorem eO_18 {s0 s1 s2 s3 s4 s5 s6 s7 s8 s9 s10 s11 s12 s13 s14 s15 s16 s17 : Option Sl} : cE (fVar 18) (s0 :: s1 :: s2 :: s3 :: s4 :: s5 :: s6 :: s7 :: s8 :: s9 :: s10 :: s11 :: s12 :: s13 :: s14 :: s15 :: s16 :: s17 :: some (.ow n ds) :: r) h kE = kE (s0 :: s1 :: s2 :: s3 :: s4 :: s5 :: s6 :: s7 :: s8 :: s9 :: s10 :: s11 :: s12 :: s13 :: s14 :: s15 :: s16 :: s17 :: some (.ow n ds) :: r) (.own 18) := id rfl
@[simp ↓] theorem eSl_18 {s0 s1 s2 s3 s4 s5 s6 s7 s8 s9 s10 s11 s12 s13 s14 s15 s16 s17 : Option Sl} : cE (fVar 18) (lent (s0 :: s1 :: s2 :: s3 :: s4 :: s5 :: s6 :: s7 :: s8 :: s9 :: s10 :: s11 :: s12 :: s13 :: s14 :: s15 :: s16 :: s17 :: some (.sh n d) :: r)) h kE = kE (lent (s0 :: s1 :: s2 :: s3 :: s4 :: s5 :: s6 :: s7 :: s8 :: s9 :: s10 :: s11 :: s12 :: s13 :: s14 :: s15 :: s16 :: s17 :: some (.sh n d) :: r)) (.sh n d) := id rfl
@[simp ↓] theorem eOl_18 {s0 s1 s2 s3 s4 s5 s6 s7 s8 s9 s10 s11 s12 s13 s14 s15 s16 s17 : Option Sl} : cE (fVar 18) (lent (s0 :: s1 :: s2 :: s3 :: s4 :: s5 :: s6 :: s7 :: s8 :: s9 :: s10 :: s11 :: s12 :: s13 :: s14 :: s15 :: s16 :: s17 :: some (.ow n ds) :: r)) h kE = kE (lent (s0 :: s1 :: s2 :: s3 :: s4 :: s5 :: s6 :: s7 :: s8 :: s9 :: s10 :: s11 :: s12 :: s13 :: s14 :: s15 :: s16 :: s17 :: some (.ow n ds) :: r)) (.sh n (.list ds)) := id rfl
@[simp ↓] theorem vS_18 {s0 s1 s2 s3 s4 s5 s6 s7 s8 s9 s10 s11 s12 s13 s14 s15 s16 s17 : Option Sl} : cV (rd (fVar 18)) (s0 :: s1 :: s2 :: s3 :: s4 :: s5 :: s6 :: s7 :: s8 :: s9 :: s10 :: s11 :: s12 :: s13 :: s14 :: s15 :: s16 :: s17 :: some (.sh n d) :: r) h kV = kV (s0 :: s1 :: s2 :: s3 :: s4 :: s5 :: s6 :: s7 :: s8 :: s9 :: s10 :: s11 :: s12 :: s13 :: s14 :: s15 :: s16 :: s17 :: some (.sh n d) :: r) n d := id rfl
@[simp ↓] theorem vO_18 {s0 s1 s2 s3 s4 s5 s6 s7 s8 s9 s10 s11 s12 s13 s14 s15 s16 s17 : Option Sl} : cV (rd (fVar 18)) (s0 :: s1 :: s2 :: s3 :: s4 :: s5 :: s6 :: s7 :: s8 :: s9 :: s10 :: s11 :: s12 :: s13 :: s14 :: s15 :: s16 :: s17 :: some (.ow n ds) :: r) h kV = kV (s0 :: s1 :: s2 :: s3 :: s4 :: s5 :: s6 :: s7 :: s8 :: s9 :: s10 :: s11 :: s12 :: s13 :: s14 :: s15 :: s16 :: s17 :: some (.ow n ds) :: r) n (.list ds) := id rfl
@[simp ↓] theorem vSl_18 {s0 s1 s2 s3 s4 s5 s6 s7 s8 s9 s10 s11 s12 s13 s14 s15 s16 s17 : Option Sl} : cV (rd (fVar 18)) (lent (s0 :: s1 :: s2 :: s3 :: s4 :: s5 :: s6 :: s7 :: s8 :: s9 :: s10 :: s11 :: s12 :: s13 :: s14 :: s15 :: s16 :: s17 :: some (.sh n d) :: r)) h kV = kV (lent (s0 :: s1 :: s2 :: s3 :: s4 :: s5 :: s6 :: s7 :: s8 :: s9 :: s10 :: s11 :: s12 :: s13 :: s14 :: s15 :: s16 :: s17 :: some (.sh n d) :: r)) n d := id rfl
@[simp ↓] theorem vOl_18 {s0 s1 s2 s3 s4 s5 s6 s7 s8 s9 s10 s11 s12 s13 s14 s15 s16 s17 : Option Sl} : cV (rd (fVar 18)) (lent (s0 :: s1 :: s2 :: s3 :: s4 :: s5 :: s6 :: s7 :: s8 :: s9 :: s10 :: s11 :: s12 :: s13 :: s14 :: s15 :: s16 :: s17 :: some (.ow n ds) :: r)) h kV = kV (lent (s0 :: s1 :: s2 :: s3 :: s4 :: s5 :: s6 :: s7 :: s8 :: s9 :: s10 :: s11 :: s12 :: s13 :: s14 :: s15 :: s16 :: s17 :: some (.ow n ds) :: r)) n (.list ds) := id rfl
@[simp ↓] theorem kS_18 {s0 s1 s2 s3 s4 s5 s6 s7 s8 s9 s10 s11 s12 s13 s14 s15 s16 s17 : Option Sl} : cV (st (fVar 18)) (s0 :: s1 :: s2 :: s3 :: s4 :: s5 :: s6 :: s7 :: s8 :: s9 :: s10 :: s11 :: s12 :: s13 :: s14 :: s15 :: s16 :: s17 :: some (.sh n d) :: r) h kV = kV (s0 :: s1 :: s2 :: s3 :: s4 :: s5 :: s6 :: s7 :: s8 :: s9 :: s10 :: s11 :: s12 :: s13 :: s14 :: s15 :: s16 :: s17 :: some (.sh n d) :: r) n d := id rfl
@[simp ↓] theorem kO_18 {s0 s1 s2 s3 s4 s5 s6 s7 s8 s9 s10 s11 s12 s13 s14 s15 s16 s17 : Option Sl} : cV (st (fVar 18)) (s0 :: s1 :: s2 :: s3 :: s4 :: s5 :: s6 :: s7 :: s8 :: s9 :: s10 :: s11 :: s12 :: s13 :: s14 :: s15 :: s16 :: s17 :: some (.ow n ds) :: r) h kV = kV (s0 :: s1 :: s2 :: s3 :: s4 :: s5 :: s6 :: s7 :: s8 :: s9 :: s10 :: s11 :: s12 :: s13 :: s14 :: s15 :: s16 :: s17 :: some (.sh n (.list ds)) :: r) n (.list ds) := id rfl
@[simp ↓] theorem kSl_18 {s0 s1 s2 s3 s4 s5 s6 s7 s8 s9 s10 s11 s12 s13 s14 s15 s16 s17 : Option Sl} : cV (st (fVar 18)) (lent (s0 :: s1 :: s2 :: s3 :: s4 :: s5 :: s6 :: s7 :: s8 :: s9 :: s10 :: s11 :: s12 :: s13 :: s14 :: s15 :: s16 :: s17 :: some (.sh n d) :: r)) h kV = kV (lent (s0 :: s1 :: s2 :: s3 :: s4 :: s5 :: s6 :: s7 :: s8 :: s9 :: s10 :: s11 :: s12 :: s13 :: s14 :: s15 :: s16 :: s17 :: some (.sh n d) :: r)) n d := id rfl
@[simp ↓] theorem kOl_18 {s0 s1 s2 s3 s4 s5 s6 s7 s8 s9 s10 s11 s12 s13 s14 s15 s16 s17 : Option Sl} : cV (st (fVar 18)) (lent (s0 :: s1 :: s2 :: s3 :: s4 :: s5 :: s6 :: s7 :: s8 :: s9 :: s10 :: s11 :: s12 :: s13 :: s14 :: s15 :: s16 :: s17 :: some (.ow n ds) :: r)) h kV = kV (lent (s0 :: s1 :: s2 :: s3 :: s4 :: s5 :: s6 :: s7 :: s8 :: s9 :: s10 :: s11 :: s12 :: s13 :: s14 :: s15 :: s16 :: s17 :: some (.sh n (.list ds)) :: r)) n (.list ds) := id rfl
@[simp ↓] theorem p_18 {s0 s1 s2 s3 s4 s5 s6 s7 s8 s9 s10 s11 s12 s13 s14 s15 s16 s17 : Option Sl} : cP 18 (s0 :: s1 :: s2 :: s3 :: s4 :: s5 :: s6 :: s7 :: s8 :: s9 :: s10 :: s11 :: s12 :: s13 :: s14 :: s15 :: s16 :: s17 :: x :: r) y kP = kP (s0 :: s1 :: s2 :: s3 :: s4 :: s5 :: s6 :: s7 :: s8 :: s9 :: s10 :: s11 :: s12 :: s13 :: s14 :: s15 :: s16 :: s17 :: y :: r) := id rfl
@[simp ↓] theorem rO_18 {s0 s1 s2 s3 s4 s5 s6 s7 s8 s9 s10 s11 s12 s13 s14 s15 s16 s17 : Option Sl} : reK (s0 :: s1 :: s2 :: s3 :: s4 :: s5 :: s6 :: s7 :: s8 :: s9 :: s10 :: s11 :: s12 :: s13 :: s14 :: s15 :: s16 :: s17 :: some (.ow n ds) :: r) (.own 18) h kO = kO (.rt (.nw n ds)) := id rfl
@[simp ↓] theorem iO_18 {s0 s1 s2 s3 s4 s5 s6 s7 s8 s9 s10 s11 s12 s13 s14 s15 s16 s17 : Option Sl} {z : Rs β} : grd (isOw (gt (s0 :: s1 :: s2 :: s3 :: s4 :: s5 :: s6 :: s7 :: s8 :: s9 :: s10 :: s11 :: s12 :: s13 :: s14 :: s15 :: s16 :: s17 :: some (.ow n ds) :: r) 18)) z = z := id rfl
@[simp ↓] theorem rdO_18 {s0 s1 s2 s3 s4 s5 s6 s7 s8 s9 s10 s11 s12 s13 s14 s15 s16 s17 : Option Sl} : rdK (s0 :: s1 :: s2 :: s3 :: s4 :: s5 :: s6 :: s7 :: s8 :: s9 :: s10 :: s11 :: s12 :: s13 :: s14 :: s15 :: s16 :: s17 :: some (.ow n ds) :: r) (.own 18) h kV = kV (s0 :: s1 :: s2 :: s3 :: s4 :: s5 :: s6 :: s7 :: s8 :: s9 :: s10 :: s11 :: s12 :: s13 :: s14 :: s15 :: s16 :: s17 :: some (.ow n ds) :: r) n (.list ds) := id rfl
@[simp ↓] theorem stO_18 {s0 s1 s2 s3 s4 s5 s6 s7 s8 s9 s10 s11 s12 s13 s14 s15 s16 s17 : Option Sl} : stK (s0 :: s1 :: s2 :: s3 :: s4 :: s5 :: s6 :: s7 :: s8 :: s9 :: s10 :: s11 :: s12 :: s13 :: s14 :: s15 :: s16 :: s17 :: some (.ow n ds) :: r) (.own 18) h kV = kV (s0 :: s1 :: s2 :: s3 :: s4 :: s5 :: s6 :: s7 :: s8 :: s9 :: s10 :: s11 :: s12 :: s13 :: s14 :: s15 :: s16 :: s17 :: some (.sh n (.list ds)) :: r) n (.list ds) := id rfl
@[simp ↓] theorem pO_18 {s0 s1 s2 s3 s4 s5 s6 s7 s8 s9 s10 s11 s12 s13 s14 s15 s16 s17 : Option Sl} {i : Nat} : puK i (s0 :: s1 :: s2 :: s3 :: s4 :: s5 :: s6 :: s7 :: s8 :: s9 :: s10 :: s11 :: s12 :: s13 :: s14 :: s15 :: s16 :: s17 :: some (.ow n ds) :: r) (.own 18) h kP = cP i (s0 :: s1 :: s2 :: s3 :: s4 :: s5 :: s6 :: s7 :: s8 :: s9 :: s10 :: s11 :: s12 :: s13 :: s14 :: s15 :: s16 :: s17 :: some (.sh n (.list ds)) :: r) (some (.sh n (.list ds))) kP := id rfl
@[simp ↓ low] theorem aO_18 {s0 s1 s2 s3 s4 s5 s6 s7 s8 s9 s10 s11 s12 s13 s14 s15 s16 s17 : Option Sl} : apK 18 (s0 :: s1 :: s2 :: s3 :: s4 :: s5 :: s6 :: s7 :: s8 :: s9 :: s10 :: s11 :: s12 :: s13 :: s14 :: s15 :: s16 :: s17 :: some (.ow n ds) :: r) m d h kO = grd (decide (ds.length < 1000000)) (kO (.nx (s0 :: s1 :: s2 :: s3 :: s4 :: s5 :: s6 :: s7 :: s8 :: s9 :: s10 :: s11 :: s12 :: s13 :: s14 :: s15 :: s16 :: s17 :: some (.ow (n && m) (ds ++ [d])) :: r))) := by
  exact on_grd _ _ _ _
@[simp ↓ low] theorem sO_18 {s0 s1 s2 s3 s4 s5 s6 s7 s8 s9 s10 s11 s12 s13 s14 s15 s16 s17 : Option Sl} (z : 0 ≤ j ∧ j < ds.length) : siK 18 (s0 :: s1 :: s2 :: s3 :: s4 :: s5 :: s6 :: s7 :: s8 :: s9 :: s10 :: s11 :: s12 :: s13 :: s14 :: s15 :: s16 :: s17 :: some (.ow n ds) :: r) m d (.int j) h kO = kO (.nx (s0 :: s1 :: s2 :: s3 :: s4 :: s5 :: s6 :: s7 :: s8 :: s9 :: s10 :: s11 :: s12 :: s13 :: s14 :: s15 :: s16 :: s17 :: some (.ow (n && m) (ds.set j.toNat d)) :: r)) := by
  unfold siK; rw [show gt (s0 :: s1 :: s2 :: s3 :: s4 :: s5 :: s6 :: s7 :: s8 :: s9 :: s10 :: s11 :: s12 :: s13 :: s14 :: s15 :: s16 :: s17 :: some (.ow n ds) :: r) 18 = some (.ow n ds) from rfl, setS_ow, ixN_in z]; rfl
@[simp ↓] theorem aOm_18 {s0 s1 s2 s3 s4 s5 s6 s7 s8 s9 s10 s11 s12 s13 s14 s15 s16 s17 : Option Sl} : apK 18 (s0 :: s1 :: s2 :: s3 :: s4 :: s5 :: s6 :: s7 :: s8 :: s9 :: s10 :: s11 :: s12 :: s13 :: s14 :: s15 :: s16 :: s17 :: some (.ow n (xs.map c)) :: r) m (c z) h kO = grd (decide (xs.length < 1000000)) (kO (.nx (s0 :: s1 :: s2 :: s3 :: s4 :: s5 :: s6 :: s7 :: s8 :: s9 :: s10 :: s11 :: s12 :: s13 :: s14 :: s15 :: s16 :: s17 :: some (.ow (n && m) ((xs ++ [z]).map c)) :: r))) := by
  rw [aO_18, List.length_map, map_snoc]
@[simp ↓] theorem sOm_18 {s0 s1 s2 s3 s4 s5 s6 s7 s8 s9 s10 s11 s12 s13 s14 s15 s16 s17 : Option Sl} (q : 0 ≤ j ∧ j < xs.length) : siK 18 (s0 :: s1 :: s2 :: s3 :: s4 :: s5 :: s6 :: s7 :: s8 :: s9 :: s10 :: s11 :: s12 :: s13 :: s14 :: s15 :: s16 :: s17 :: some (.ow n (xs.map c)) :: r) m (c z) (.int j) h kO = kO (.nx (s0 :: s1 :: s2 :: s3 :: s4 :: s5 :: s6 :: s7 :: s8 :: s9 :: s10 :: s11 :: s12 :: s13 :: s14 :: s15 :: s16 :: s17 :: some (.ow (n && m) ((ist xs j z).map c)) :: r)) := by
  rw [sO_18 (by rw [List.length_map]; exact q), map_set]; rfl
@[simp ↓] theorem eS_19 {s0 s1 s2 s3 s4 s5 s6 s7 s8 s9 s10 s11 s12 s13 s14 s15 s16 s17 s18 : Option Sl} : cE (fVar 19) (s0 :: s1 :: s2 :: s3 :: s4 :: s5 :: s6 :: s7 :: s8 :: s9 :: s10 :: s11 :: s12 :: s13 :: s14 :: s15 :: s16 :: s17 :: s18 :: some (.sh n d) :: r) h kE = kE (s0 :: s1 :: s2 :: s3 :: s4 :: s5 :: s6 :: s7 :: s8 :: s9 :: s10 :: s11 :: s12 :: s13 :: s14 :: s15 :: s16 :: s17 :: s18 :: some (.sh n d) :: r) (.sh n d) := id rfl
@[simp ↓] theorem eO_19 {s0 s1 s2 s3 s4 s5 s6 s7 s8 s9 s10 s11 s12 s13 s14 s15 s16 s17 s18 : Option Sl} : cE (fVar 19) (s0 :: s1 :: s2 :: s3 :: s4 :: s5 :: s6 :: s7 :: s8 :: s9 :: s10 :: s11 :: s12 :: s13 :: s14 :: s15 :: s16 :: s17 :: s18 :: some (.ow n ds) :: r) h kE = kE (s0 :: s1 :: s2 :: s3 :: s4 :: s5 :: s6 :: s7 :: s8 :: s9 :: s10 :: s11 :: s12 :: s13 :: s14 :: s15 :: s16 :: s17 :: s18 :: some (.ow n ds) :: r) (.own 19) := id rfl
@[simp ↓] theorem eSl_19 {s0 s1 s2 s3 s4 s5 s6 s7 s8 s9 s10 s11 s12 s13 s14 s15 s16 s17 s18 : Option Sl} : cE (fVar 19) (lent (s0 :: s1 :: s2 :: s3 :: s4 :: s5 :: s6 :: s7 :: s8 :: s9 :: s10 :: s11 :: s12 :: s13 :: s14 :: s15 :: s16 :: s17 :: s18 :: some (.sh n d) :: r)) h kE = kE (lent (s0 :: s1 :: s2 :: s3 :: s4 :: s5 :: s6 :: s7 :: s8 :: s9 :: s10 :: s11 :: s12 :: s13 :: s14 :: s15 :: s16 :: s17 :: s18 :: some (.sh n d) :: r)) (.sh n d) := id rfl
@[simp ↓] theorem eOl_19 {s0 s1 s2 s3 s4 s5 s6 s7 s8 s9 s10 s11 s12 s13 s14 s15 s16 s17 s18 : Option Sl} : cE (fVar 19) (lent (s0 :: s1 :: s2 :: s3 :: s4 :: s5 :: s6 :: s7 :: s8 :: s9 :: s10 :: s11 :: s12 :: s13 :: s14 :: s15 :: s16 :: s17 :: s18 :: some (.ow n ds) :: r)) h kE = kE (lent (s0 :: s1 :: s2 :: s3 :: s4 :: s5 :: s6 :: s7 :: s8 :: s9 :: s10 :: s11 :: s12 :: s13 :: s14 :: s15 :: s16 :: s17 :: s18 :: some (.ow n ds) :: r)) (.sh n (.list ds)) := id rfl
@[simp ↓] theorem vS_19 {s0 s1 s2 s3 s4 s5 s6 s7 s8 s9 s10 s11 s12 s13 s14 s15 s16 s17 s18 : Option Sl} : cV (rd (fVar 19)) (s0 :: s1 :: s2 :: s3 :: s4 :: s5 :: s6 :: s7 :: s8 :: s9 :: s10 :: s11 :: s12 :: s13 :: s14 :: s15 :: s16 :: s17 :: s18 :: some (.sh n d) :: r) h kV = kV (s0 :: s1 :: s2 :: s3 :: s4 :: s5 :: s6 :: s7 :: s8 :: s9 :: s10 :: s11 :: s12 :: s13 :: s14 :: s15 :: s16 :: s17 :: s18 :: some (.sh n d) :: r) n d := id rfl
@[simp ↓] theorem vO_19 {s0 s1 s2 s3 s4 s5 s6 s7 s8 s9 s10 s11 s12 s13 s14 s15 s16 s17 s18 : Option Sl} : cV (rd (fVar 19)) (s0 :: s1 :: s2 :: s3 :: s4 :: s5 :: s6 :: s7 :: s8 :: s9 :: s10 :: s11 :: s12 :: s13 :: s14 :: s15 :: s16 :: s17 :: s18 :: some (.ow n ds) :: r) h kV = kV (s0 :: s1 :: s2 :: s3 :: s4 :: s5 :: s6 :: s7 :: s8 :: s9 :: s10 :: s11 :: s12 :: s13 :: s14 :: s15 :: s16 :: s17 :: s18 :: some (.ow n ds) :: r) n (.list ds) := id rfl
@[simp ↓] theorem vSl_19 {s0 s1 s2 s3 s4 s5 s6 s7 s8 s9 s10 s11 s12 s13 s14 s15 s16 s17 s18 : Option Sl} : cV (rd (fVar 19)) (lent (s0 :: s1 :: s2 :: s3 :: s4 :: s5 :: s6 :: s7 :: s8 :: s9 :: s10 :: s11 :: s12 :: s13 :: s14 :: s15 :: s16 :: s17 :: s18 :: some (.sh n d) :: r)) h kV = kV (lent (s0 :: s1 :: s2 :: s3 :: s4 :: s5 :: s6 :: s7 :: s8 :: s9 :: s10 :: s11 :: s12 :: s13 :: s14 :: s15 :: s16 :: s17 :: s18 :: some (.sh n d) :: r)) n d := id rfl
@[simp ↓] theorem vOl_19 {s0 s1 s2 s3 s4 s5 s6 s7 s8 s9 s10 s11 s12 s13 s14 s15 s16 s17 s18 : Option Sl} : cV (rd (fVar 19)) (lent (s0 :: s1 :: s2 :: s3 :: s4 :: s5 :: s6 :: s7 :: s8 :: s9 :: s10 :: s11 :: s12 :: s13 :: s14 :: s15 :: s16 :: s17 :: s18 :: some (.ow n ds) :: r)) h kV = kV (lent (s0 :: s1 :: s2 :: s3 :: s4 :: s5 :: s6 :: s7 :: s8 :: s9 :: s10 :: s11 :: s12 :: s13 :: s14 :: s15 :: s16 :: s17 :: s18 :: some (.ow n ds) :: r)) n (.list ds) := id rfl
@[simp ↓] theorem kS_19 {s0 s1 s2 s3 s4 s5 s6 s7 s8 s9 s10 s11 s12 s13 s14 s15 s16 s17 s18 : Option Sl} : cV (st (fVar 19)) (s0 :: s1 :: s2 :: s3 :: s4 :: s5 :: s6 :: s7 :: s8 :: s9 :: s10 :: s11 :: s12 :: s13 :: s14 :: s15 :: s16 :: s17 :: s18 :: some (.sh n d) :: r) h kV = kV (s0 :: s1 :: s2 :: s3 :: s4 :: s5 :: s6 :: s7 :: s8 :: s9 :: s10 :: s11 :: s12 :: s13 :: s14 :: s15 :: s16 :: s17 :: s18 :: some (.sh n d) :: r) n d := id rfl
@[simp ↓] theorem kO_19 {s0 s1 s2 s3 s4 s5 s6 s7 s8 s9 s10 s11 s12 s13 s14 s15 s16 s17 s18 : Option Sl} : cV (st (fVar 19)) (s0 :: s1 :: s2 :: s3 :: s4 :: s5 :: s6 :: s7 :: s8 :: s9 :: s10 :: s11 :: s12 :: s13 :: s14 :: s15 :: s16 :: s17 :: s18 :: some (.ow n ds) :: r) h kV = kV (s0 :: s1 :: s2 :: s3 :: s4 :: s5 :: s6 :: s7 :: s8 :: s9 :: s10 :: s11 :: s12 :: s13 :: s14 :: s15 :: s16 :: s17 :: s18 :: some (.sh n (.list ds)) :: r) n (.list ds) := id rfl
@[simp ↓] theorem kSl_19 {s0 s1 s2 s3 s4 s5 s6 s7 s8 s9 s10 s11 s12 s13 s14 s15 s16 s17 s18 : Option Sl} : cV (st (fVar 19)) (lent (s0 :: s1 :: s2 :: s3 :: s4 :: s5 :: s6 :: s7 :: s8 :: s9 :: s10 :: s11 :: s12 :: s13 :: s14 :: s15 :: s16 :: s17 :: s18 :: some (.sh n d) :: r)) h kV = kV (lent (s0 :: s1 :: s2 :: s3 :: s4 :: s5 :: s6 :: s7 :: s8 :: s9 :: s10 :: s11 :: s12 :: s13 :: s14 :: s15 :: s16 :: s17 :: s18 :: some (.sh n d) :: r)) n d := id rfl
@[simp ↓] theorem kOl_19 {s0 s1 s2 s3 s4 s5 s6 s7 s8 s9 s10 s11 s12 s13 s14 s15 s16 s17 s18 : Option Sl} : cV (st (fVar 19)) (lent (s0 :: s1 :: s2 :: s3 :: s4 :: s5 :: s6 :: s7 :: s8 :: s9 :: s10 :: s11 :: s12 :: s13 :: s14 :: s15 :: s16 :: s17 :: s18 :: some (.ow n ds) :: r)) h kV = kV (lent (s0 :: s1 :: s2 :: s3 :: s4 :: s5 :: s6 :: s7 :: s8 :: s9 :: s10 :: s11 :: s12 :: s13 :: s14 :: s15 :: s16 :: s17 :: s18 :: some (.sh n (.list ds)) :: r)) n (.list ds) := id rfl
@[simp ↓] theorem p_19 {s0 s1 s2 s3 s4 s5 s6 s7 s8 s9 s10 s11 s12 s13 s14 s15 s16 s17 s18 : Option Sl} : cP 19 (s0 :: s1 :: s2 :: s3 :: s4 :: s5 :: s6 :: s7 :: s8 :: s9 :: s10 :: s11 :: s12 :: s13 :: s14 :: s15 :: s16 :: s17 :: s18 :: x :: r) y kP = kP (s0 :: s1 :: s2 :: s3 :: s4 :: s5 :: s6 :: s7 :: s8 :: s9 :: s10 :: s11 :: s12 :: s13 :: s14 :: s15 :: s16 :: s17 :: s18 :: y :: r) := id rfl
@[simp ↓] theorem rO_19 {s0 s1 s2 s3 s4 s5 s6 s7 s8 s9 s10 s11 s12 s13 s14 s15 s16 s17 s18 : Option Sl} : reK (s0 :: s1 :: s2 :: s3 :: s4 :: s5 :: s6 :: s7 :: s8 :: s9 :: s10 :: s11 :: s12 :: s13 :: s14 :: s15 :: s16 :: s17 :: s18 :: some (.ow n ds) :: r) (.own 19) h kO = kO (.rt (.nw n ds)) := id rfl
@[simp ↓] theorem iO_19 {s0 s1 s2 s3 s4 s5 s6 s7 s8 s9 s10 s11 s12 s13 s14 s15 s16 s17 s18 : Option Sl} {z : Rs β} : grd (isOw (gt (s0 :: s1 :: s2 :: s3 :: s4 :: s5 :: s6 :: s7 :: s8 :: s9 :: s10 :: s11 :: s12 :: s13 :: s14 :: s15 :: s16 :: s17 :: s18 :: some (.ow n ds) :: r) 19)) z = z := id rfl
@[simp ↓] theorem rdO_19 {s0 s1 s2 s3 s4 s5 s6 s7 s8 s9 s10 s11 s12 s13 s14 s15 s16 s17 s18 : Option Sl} : rdK (s0 :: s1 :: s2 :: s3 :: s4 :: s5 :: s6 :: s7 :: s8 :: s9 :: s10 :: s11 :: s12 :: s13 :: s14 :: s15 :: s16 :: s17 :: s18 :: some (.ow n ds) :: r) (.own 19) h kV = kV (s0 :: s1 :: s2 :: s3 :: s4 :: s5 :: s6 :: s7 :: s8 :: s9 :: s10 :: s11 :: s12 :: s13 :: s14 :: s15 :: s16 :: s17 :: s18 :: some (.ow n ds) :: r) n (.list ds) := id rfl
@[simp ↓] theorem stO_19 {s0 s1 s2 s3 s4 s5 s6 s7 s8 s9 s10 s11 s12 s13 s14 s15 s16 s17 s18 : Option Sl} : stK (s0 :: s1 :: s2 :: s3 :: s4 :: s5 :: s6 :: s7 :: s8 :: s9 :: s10 :: s11 :: s12 :: s13 :: s14 :: s15 :: s16 :: s17 :: s18 :: some (.ow n ds) :: r) (.own 19) h kV = kV (s0 :: s1 :: s2 :: s3 :: s4 :: s5 :: s6 :: s7 :: s8 :: s9 :: s10 :: s11 :: s12 :: s13 :: s14 :: s15 :: s16 :: s17 :: s18 :: some (.sh n (.list ds)) :: r) n (.list ds) := id rfl
@[simp ↓] theorem pO_19 {s0 s1 s2 s3 s4 s5 s6 s7 s8 s9 s10 s11 s12 s13 s14 s15 s16 s17 s18 : Option Sl} {i : Nat} : puK i (s0 :: s1 :: s2 :: s3 :: s4 :: s5 :: s6 :: s7 :: s8 :: s9 :: s10 :: s11 :: s12 :: s13 :: s14 :: s15 :: s16 :: s17 :: s18 :: some (.ow n ds) :: r) (.own 19) h kP = cP i (s0 :: s1 :: s2 :: s3 :: s4 :: s5 :: s6 :: s7 :: s8 :: s9 :: s10 :: s11 :: s12 :: s13 :: s14 :: s15 :: s16 :: s17 :: s18 :: some (.sh n (.list ds)) :: r) (some (.sh n (.list ds))) kP := id rfl
@[simp ↓ low] theorem aO_19 {s0 s1 s2 s3 s4 s5 s6 s7 s8 s9 s10 s11 s12 s13 s14 s15 s16 s17 s18 : Option Sl} : apK 19 (s0 :: s1 :: s2 :: s3 :: s4 :: s5 :: s6 :: s7 :: s8 :: s9 :: s10 :: s11 :: s12 :: s13 :: s14 :: s15 :: s16 :: s17 :: s18 :: some (.ow n ds) :: r) m d h kO = grd (decide (ds.length < 1000000)) (kO (.nx (s0 :: s1 :: s2 :: s3 :: s4 :: s5 :: s6 :: s7 :: s8 :: s9 :: s10 :: s11 :: s12 :: s13 :: s14 :: s15 :: s16 :: s17 :: s18 :: some (.ow (n && m) (ds ++ [d])) :: r))) := by
  exact on_grd _ _ _ _
@[simp ↓ low] theorem sO_19 {s0 s1 s2 s3 s4 s5 s6 s7 s8 s9 s10 s11 s12 s13 s14 s15 s16 s17 s18 : Option Sl} (z : 0 ≤ j ∧ j < ds.length) : siK 19 (s0 :: s1 :: s2 :: s3 :: s4 :: s5 :: s6 :: s7 :: s8 :: s9 :: s10 :: s11 :: s12 :: s13 :: s14 :: s15 :: s16 :: s17 :: s18 :: some (.ow n ds) :: r) m d (.int j) h kO = kO (.nx (s0 :: s1 :: s2 :: s3 :: s4 :: s5 :: s6 :: s7 :: s8 :: s9 :: s10 :: s11 :: s12 :: s13 :: s14 :: s15 :: s16 :: s17 :: s18 :: some (.ow (n && m) (ds.set j.toNat d)) :: r)) := by
  unfold siK; rw [show gt (s0 :: s1 :: s2 :: s3 :: s4 :: s5 :: s6 :: s7 :: s8 :: s9 :: s10 :: s11 :: s12 :: s13 :: s14 :: s15 :: s16 :: s17 :: s18 :: some (.ow n ds) :: r) 19 = some (.ow n ds) from rfl, setS_ow, ixN_in z]; rfl
@[simp ↓] theorem aOm_19 {s0 s1 s2 s3 s4 s5 s6 s7 s8 s9 s10 s11 s12 s13 s14 s15 s16 s17 s18 : Option Sl} : apK 19 (s0 :: s1 :: s2 :: s3 :: s4 :: s5 :: s6 :: s7 :: s8 :: s9 :: s10 :: s11 :: s12 :: s13 :: s14 :: s15 :: s16 :: s17 :: s18 :: some (.ow n (xs.map c)) :: r) m (c z) h kO = grd (decide (xs.length < 1000000)) (kO (.nx (s0 :: s1 :: s2 :: s3 :: s4 :: s5 :: s6 :: s7 :: s8 :: s9 :: s10 :: s11 :: s12 :: s13 :: s14 :: s15 :: s16 :: s17 :: s18 :: some (.ow (n && m) ((xs ++ [z]).map c)) :: r))) := by
  rw [aO_19, List.length_map, map_snoc]
@[simp ↓] theorem sOm_19 {s0 s1 s2 s3 s4 s5 s6 s7 s8 s9 s10 s11 s12 s13 s14 s15 s16 s17 s18 : Option Sl} (q : 0 ≤ j ∧ j < xs.length) : siK 19 (s0 :: s1 :: s2 :: s3 :: s4 :: s5 :: s6 :: s7 :: s8 :: s9 :: s10 :: s11 :: s12 :: s13 :: s14 :: s15 :: s16 :: s17 :: s18 :: some (.ow n (xs.map c)) :: r) m (c z) (.int j) h kO = kO (.nx (s0 :: s1 :: s2 :: s3 :: s4 :: s5 :: s6 :: s7 :: s8 :: s9 :: s10 :: s11 :: s12 :: s13 :: s14 :: s15 :: s16 :: s17 :: s18 :: some (.ow (n && m) ((ist xs j z).map c)) :: r)) := by
  rw [sO_19 (by rw [List.length_map]; exact q), map_set]; rfl
@[simp ↓] theorem eS_20 {s0 s1 s2 s3 s4 s5 s6 s7 s8 s9 s10 s11 s12 s13 s14 s15 s16 s17 s18 s19 : Option Sl} : cE (fVar 20) (s0 :: s1 :: s2 :: s3 :: s4 :: s5 :: s6 :: s7 :: s8 :: s9 :: s10 :: s11 :: s12 :: s13 :: s14 :: s15 :: s16 :: s17 :: s18 :: s19 :: some (.sh n d) :: r) h kE = kE (s0 :: s1 :: s2 :: s3 :: s4 :: s5 :: s6 :: s7 :: s8 :: s9 :: s10 :: s11 :: s12 :: s13 :: s14 :: s15 :: s16 :: s17 :: s18 :: s19 :: some (.sh n d) :: r) (.sh n d) := id rfl
@[simp ↓] theorem eO_20 {s0 s1 s2 s3 s4 s5 s6 s7 s8 s9 s10 s11 s12 s13 s14 s15 s16 s17 s18 s19 : Option Sl} : cE (fVar 20) (s0 :: s1 :: s2 :: s3 :: s4 :: s5 :: s6 :: s7 :: s8 :: s9 :: s10 :: s11 :: s12 :: s13 :: s14 :: s15 :: s16 :: s17 :: s18 :: s19 :: some (.ow n ds) :: r) h kE = kE (s0 :: s1 :: s2 :: s3 :: s4 :: s5 :: s6 :: s7 :: s8 :: s9 :: s10 :: s11 :: s12 :: s13 :: s14 :: s15 :: s16 :: s17 :: s18 :: s19 :: some (.ow n ds) :: r) (.own 20) := id rfl
@[simp ↓] theorem eSl_20 {s0 s1 s2 s3 s4 s5 s6 s7 s8 s9 s10 s11 s12 s13 s14 s15 s16 s17 s18 s19 : Option Sl} : cE (fVar 20) (lent (s0 :: s1 :: s2 :: s3 :: s4 :: s5 :: s6 :: s7 :: s8 :: s9 :: s10 :: s11 :: s12 :: s13 :: s14 :: s15 :: s16 :: s17 :: s18 :: s19 :: some (.sh n d) :: r)) h kE = kE (lent (s0 :: s1 :: s2 :: s3 :: s4 :: s5 :: s6 :: s7 :: s8 :: s9 :: s10 :: s11 :: s12 :: s13 :: s14 :: s15 :: s16 :: s17 :: s18 :: s19 :: some (.sh n d) :: r)) (.sh n d) := id rfl
@[simp ↓] theorem eOl_20 {s0 s1 s2 s3 s4 s5 s6 s7 s8 s9 s10 s11 s12 s13 s14 s15 s16 s17 s18 s19 : Option Sl} : cE (fVar 20) (lent (s0 :: s1 :: s2 :: s3 :: s4 :: s5 :: s6 :: s7 :: s8 :: s9 :: s10 :: s11 :: s12 :: s13 :: s14 :: s15 :: s16 :: s17 :: s18 :: s19 :: some (.ow n ds) :: r)) h kE = kE (lent (s0 :: s1 :: s2 :: s3 :: s4 :: s5 :: s6 :: s7 :: s8 :: s9 :: s10 :: s11 :: s12 :: s13 :: s14 :: s15 :: s16 :: s17 :: s18 :: s19 :: some (.ow n ds) :: r)) (.sh n (.list ds)) := id rfl
@[simp ↓] theorem vS_20 {s0 s1 s2 s3 s4 s5 s6 s7 s8 s9 s10 s11 s12 s13 s14 s15 s16 s17 s18 s19 : Option Sl} : cV (rd (fVar 20)) (s0 :: s1 :: s2 :: s3 :: s4 :: s5 :: s6 :: s7 :: s8 :: s9 :: s10 :: s11 :: s12 :: s13 :: s14 :: s15 :: s16 :: s17 :: s18 :: s19 :: some (.sh n d) :: r) h kV = kV (s0 :: s1 :: s2 :: s3 :: s4 :: s5 :: s6 :: s7 :: s8 :: s9 :: s10 :: s11 :: s12 :: s13 :: s14 :: s15 :: s16 :: s17 :: s18 :: s19 :: some (.sh n d) :: r) n d := id rfl
@[simp ↓] theorem vO_20 {s0 s1 s2 s3 s4 s5 s6 s7 s8 s9 s10 s11 s12 s13 s14 s15 s16 s17 s18 s19 : Option Sl} : cV (rd (fVar 20)) (s0 :: s1 :: s2 :: s3 :: s4 :: s5 :: s6 :: s7 :: s8 :: s9 :: s10 :: s11 :: s12 :: s13 :: s14 :: s15 :: s16 :: s17 :: s18 :: s19 :: some (.ow n ds) :: r) h kV = kV (s0 :: s1 :: s2 :: s3 :: s4 :: s5 :: s6 :: s7 :: s8 :: s9 :: s10 :: s11 :: s12 :: s13 :: s14 :: s15 :: s16 :: s17 :: s18 :: s19 :: some (.ow n ds) :: r) n (.list ds) := id rfl
@[simp ↓] theorem vSl_20 {s0 s1 s2 s3 s4 s5 s6 s7 s8 s9 s10 s11 s12 s13 s14 s15 s16 s17 s18 s19 : Option Sl} : cV (rd (fVar 20)) (lent (s0 :: s1 :: s2 :: s3 :: s4 :: s5 :: s6 :: s7 :: s8 :: s9 :: s10 :: s11 :: s12 :: s13 :: s14 :: s15 :: s16 :: s17 :: s18 :: s19 :: some (.sh n d) :: r)) h kV = kV (lent (s0 :: s1 :: s2 :: s3 :: s4 :: s5 :: s6 :: s7 :: s8 :: s9 :: s10 :: s11 :: s12 :: s13 :: s14 :: s15 :: s16 :: s17 :: s18 :: s19 :: some (.sh n d) :: r)) n d := id rfl
@[simp ↓] theorem vOl_20 {s0 s1 s2 s3 s4 s5 s6 s7 s8 s9 s10 s11 s12 s13 s14 s15 s16 s17 s18 s19 : Option Sl} : cV (rd (fVar 20)) (lent (s0 :: s1 :: s2 :: s3 :: s4 :: s5 :: s6 :: s7 :: s8 :: s9 :: s10 :: s11 :: s12 :: s13 :: s14 :: s15 :: s16 :: s17 :: s18 :: s19 :: some (.ow n ds) :: r)) h kV = kV (lent (s0 :: s1 :: s2 :: s3 :: s4 :: s5 :: s6 :: s7 :: s8 :: s9 :: s10 :: s11 :: s12 :: s13 :: s14 :: s15 :: s16 :: s17 :: s18 :: s19 :: some (.ow n ds) :: r)) n (.list ds) := id rfl
@[simp ↓] theorem kS_20 {s0 s1 s2 s3 s4 s5 s6 s7 s8 s9 s10 s11 s12 s13 s14 s15 s16 s17 s18 s19 : Option Sl} : cV (st (fVar 20)) (s0 :: s1 :: s2 :: s3 :: s4 :: s5 :: s6 :: s7 :: s8 :: s9 :: s10 :: s11 :: s12 :: s13 :: s14 :: s15 :: s16 :: s17 :: s18 :: s19 :: some (.sh n d) :: r) h kV = kV (s0 :: s1 :: s2 :: s3 :: s4 :: s5 :: s6 :: s7 :: s8 :: s9 :: s10 :: s11 :: s12 :: s13 :: s14 :: s15 :: s16 :: s17 :: s18 :: s19 :: some (.sh n d) :: r) n d := id rfl
@[simp ↓] theorem kO_20 {s0 s1 s2 s3 s4 s5 s6 s7 s8 s9 s10 s11 s12 s13 s14 s15 s16 s17 s18 s19 : Option Sl} : cV (st (fVar 20)) (s0 :: s1 :: s2 :: s3 :: s4 :: s5 :: s6 :: s7 :: s8 :: s9 :: s10 :: s11 :: s12 :: s13 :: s14 :: s15 :: s16 :: s17 :: s18 :: s19 :: some (.ow n ds) :: r) h kV = kV (s0 :: s1 :: s2 :: s3 :: s4 :: s5 :: s6 :: s7 :: s8 :: s9 :: s10 :: s11 :: s12 :: s13 :: s14 :: s15 :: s16 :: s17 :: s18 :: s19 :: some (.sh n (.list ds)) :: r) n (.list ds) := id rfl
@[simp ↓] theorem kSl_20 {s0 s1 s2 s3 s4 s5 s6 s7 s8 s9 s10 s11 s12 s13 s14 s15 s16 s17 s18 s19 : Option Sl} : cV (st (fVar 20)) (lent (s0 :: s1 :: s2 :: s3 :: s4 :: s5 :: s6 :: s7 :: s8 :: s9 :: s10 :: s11 :: s12 :: s13 :: s14 :: s15 :: s16 :: s17 :: s18 :: s19 :: some (.sh n d) :: r)) h kV = kV (lent (s0 :: s1 :: s2 :: s3 :: s4 :: s5 :: s6 :: s7 :: s8 :: s9 :: s10 :: s11 :: s12 :: s13 :: s14 :: s15 :: s16 :: s17 :: s18 :: s19 :: some (.sh n d) :: r)) n d := id rfl
@[simp ↓] theorem kOl_20 {s0 s1 s2 s3 s4 s5 s6 s7 s8 s9 s10 s11 s12 s13 s14 s15 s16 s17 s18 s19 : Option Sl} : cV (st (fVar 20)) (lent (s0 :: s1 :: s2 :: s3 :: s4 :: s5 :: s6 :: s7 :: s8 :: s9 :: s10 :: s11 :: s12 :: s13 :: s14 :: s15 :: s16 :: s17 :: s18 :: s19 :: some (.ow n ds) :: r)) h kV = kV (lent (s0 :: s1 :: s2 :: s3 :: s4 :: s5 :: s6 :: s7 :: s8 :: s9 :: s10 :: s11 :: s12 :: s13 :: s14 :: s15 :: s16 :: s17 :: s18 :: s19 :: some (.sh n (.list ds)) :: r)) n (.list ds) := id rfl
@[simp ↓] theorem p_20 {s0 s1 s2 s3 s4 s5 s6 s7 s8 s9 s10 s11 s12 s13 s14 s15 s16 s17 s18 s19 : Option Sl} : cP 20 (s0 :: s1 :: s2 :: s3 :: s4 :: s5 :: s6 :: s7 :: s8 :: s9 :: s10 :: s11 :: s12 :: s13 :: s14 :: s15 :: s16 :: s17 :: s18 :: s19 :: x :: r) y kP = kP (s0 :: s1 :: s2 :: s3 :: s4 :: s5 :: s6 :: s7 :: s8 :: s9 :: s10 :: s11 :: s12 :: s13 :: s14 :: s15 :: s16 :: s17 :: s18 :: s19 :: y :: r) := id rfl
@[simp ↓] theorem rO_20 {s0 s1 s2 s3 s4 s5 s6 s7 s8 s9 s10 s11 s12 s13 s14 s15 s16 s17 s18 s19 : Option Sl} : reK (s0 :: s1 :: s2 :: s3 :: s4 :: s5 :: s6 :: s7 :: s8 :: s9 :: s10 :: s11 :: s12 :: s13 :: s14 :: s15 :: s16 :: s17 :: s18 :: s19 :: some (.ow n ds) :: r) (.own 20) h kO = kO (.rt (.nw n ds)) := id rfl
@[simp ↓] theorem iO_20 {s0 s1 s2 s3 s4 s5 s6 s7 s8 s9 s10 s11 s12 s13 s14 s15 s16 s17 s18 s19 : Option Sl} {z : Rs β} : grd (isOw (gt (s0 :: s1 :: s2 :: s3 :: s4 :: s5 :: s6 :: s7 :: s8 :: s9 :: s10 :: s11 :: s12 :: s13 :: s14 :: s15 :: s16 :: s17 :: s18 :: s19 :: some (.ow n ds) :: r) 20)) z = z := id rfl
@[simp ↓] theorem rdO_20 {s0 s1 s2 s3 s4 s5 s6 s7 s8 s9 s10 s11 s12 s13 s14 s15 s16 s17 s18 s19 : Option Sl} : rdK (s0 :: s1 :: s2 :: s3 :: s4 :: s5 :: s6 :: s7 :: s8 :: s9 :: s10 :: s11 :: s12 :: s13 :: s14 :: s15 :: s16 :: s17 :: s18 :: s19 :: some (.ow n ds) :: r) (.own 20) h kV = kV (s0 :: s1 :: s2 :: s3 :: s4 :: s5 :: s6 :: s7 :: s8 :: s9 :: s10 :: s11 :: s12 :: s13 :: s14 :: s15 :: s16 :: s17 :: s18 :: s19 :: some (.ow n ds) :: r) n (.list ds) := id rfl
@[simp ↓] theorem stO_20 {s0 s1 s2 s3 s4 s5 s6 s7 s8 s9 s10 s11 s12 s13 s14 s15 s16 s17 s18 s19 : Option Sl} : stK (s0 :: s1 :: s2 :: s3 :: s4 :: s5 :: s6 :: s7 :: s8 :: s9 :: s10 :: s11 :: s12 :: s13 :: s14 :: s15 :: s16 :: s17 :: s18 :: s19 :: some (.ow n ds) :: r) (.own 20) h kV = kV (s0 :: s1 :: s2 :: s3 :: s4 :: s5 :: s6 :: s7 :: s8 :: s9 :: s10 :: s11 :: s12 :: s13 :: s14 :: s15 :: s16 :: s17 :: s18 :: s19 :: some (.sh n (.list ds)) :: r) n (.list ds) := id rfl
@[simp ↓] theorem pO_20 {s0 s1 s2 s3 s4 s5 s6 s7 s8 s9 s10 s11 s12 s13 s14 s15 s16 s17 s18 s19 : Option Sl} {i : Nat} : puK i (s0 :: s1 :: s2 :: s3 :: s4 :: s5 :: s6 :: s7 :: s8 :: s9 :: s10 :: s11 :: s12 :: s13 :: s14 :: s15 :: s16 :: s17 :: s18 :: s19 :: some (.ow n ds) :: r) (.own 20) h kP = cP i (s0 :: s1 :: s2 :: s3 :: s4 :: s5 :: s6 :: s7 :: s8 :: s9 :: s10 :: s11 :: s12 :: s13 :: s14 :: s15 :: s16 :: s17 :: s18 :: s19 :: some (.sh n (.list ds)) :: r) (some (.sh n (.list ds))) kP := id rfl
@[simp ↓ low] theorem aO_20 {s0 s1 s2 s3 s4 s5 s6 s7 s8 s9 s10 s11 s12 s13 s14 s15 s16 s17 s18 s19 : Option Sl} : apK 20 (s0 :: s1 :: s2 :: s3 :: s4 :: s5 :: s6 :: s7 :: s8 :: s9 :: s10 :: s11 :: s12 :: s13 :: s14 :: s15 :: s16 :: s17 :: s18 :: s19 :: some (.ow n ds) :: r) m d h kO = grd (decide (ds.length < 1000000)) (kO (.nx (s0 :: s1 :: s2 :: s3 :: s4 :: s5 :: s6 :: s7 :: s8 :: s9 :: s10 :: s11 :: s12 :: s13 :: s14 :: s15 :: s16 :: s17 :: s18 :: s19 :: some (.ow (n && m) (ds ++ [d])) :: r))) := by
  exact on_grd _ _ _ _
@[simp ↓ low] theorem sO_20 {s0 s1 s2 s3 s4 s5 s6 s7 s8 s9 s10 s11 s12 s13 s14 s15 s16 s17 s18 s19 : Option Sl} (z : 0 ≤ j ∧ j < ds.length) : siK 20 (s0 :: s1 :: s2 :: s3 :: s4 :: s5 :: s6 :: s7 :: s8 :: s9 :: s10 :: s11 :: s12 :: s13 :: s14 :: s15 :: s16 :: s17 :: s18 :: s19 :: some (.ow n ds) :: r) m d (.int j) h kO = kO (.nx (s0 :: s1 :: s2 :: s3 :: s4 :: s5 :: s6 :: s7 :: s8 :: s9 :: s10 :: s11 :: s12 :: s13 :: s14 :: s15 :: s16 :: s17 :: s18 :: s19 :: some (.ow (n && m) (ds.set j.toNat d)) :: r)) := by
  unfold siK; rw [show gt (s0 :: s1 :: s2 :: s3 :: s4 :: s5 :: s6 :: s7 :: s8 :: s9 :: s10 :: s11 :: s12 :: s13 :: s14 :: s15 :: s16 :: s17 :: s18 :: s19 :: some (.ow n ds) :: r) 20 = some (.ow n ds) from rfl, setS_ow, ixN_in z]; rfl
@[simp ↓] theorem aOm_20 {s0 s1 s2 s3 s4 s5 s6 s7 s8 s9 s10 s11 s12 s13 s14 s15 s16 s17 s18 s19 : Option Sl} : apK 20 (s0 :: s1 :: s2 :: s3 :: s4 :: s5 :: s6 :: s7 :: s8 :: s9 :: s10 :: s11 :: s12 :: s13 :: s14 :: s15 :: s16 :: s17 :: s18 :: s19 :: some (.ow n (xs.map c)) :: r) m (c z) h kO = grd (decide (xs.length < 1000000)) (kO (.nx (s0 :: s1 :: s2 :: s3 :: s4 :: s5 :: s6 :: s7 :: s8 :: s9 :: s10 :: s11 :: s12 :: s13 :: s14 :: s15 :: s16 :: s17 :: s18 :: s19 :: some (.ow (n && m) ((xs ++ [z]).map c)) :: r))) := by
  rw [aO_20, List.length_map, map_snoc]
@[simp ↓] theorem sOm_20 {s0 s1 s2 s3 s4 s5 s6 s7 s8 s9 s10 s11 s12 s13 s14 s15 s16 s17 s18 s19 : Option Sl} (q : 0 ≤ j ∧ j < xs.length) : siK 20 (s0 :: s1 :: s2 :: s3 :: s4 :: s5 :: s6 :: s7 :: s8 :: s9 :: s10 :: s11 :: s12 :: s13 :: s14 :: s15 :: s16 :: s17 :: s18 :: s19 :: some (.ow n (xs.map c)) :: r) m (c z) (.int j) h kO = kO (.nx (s0 :: s1 :: s2 :: s3 :: s4 :: s5 :: s6 :: s7 :: s8 :: s9 :: s10 :: s11 :: s12 :: s13 :: s14 :: s15 :: s16 :: s17 :: s18 :: s19 :: some (.ow (n && m) ((ist xs j z).map c)) :: r)) := by
  rw [sO_20 (by rw [List.length_map]; exact q), map_set]; rfl
@[simp ↓] theorem eS_21 {s0 s1 s2 s3 s4 s5 s6 s7 s8 s9 s10 s11 s12 s13 s14 s15 s16 s17 s18 s19 s20 : Option Sl} : cE (fVar 21) (s0 :: s1 :: s2 :: s3 :: s4 :: s5 :: s6 :: s7 :: s8 :: s9 :: s10 :: s11 :: s12 :: s13 :: s14 :: s15 :: s16 :: s17 :: s18 :: s19 :: s20 :: some (.sh n d) :: r) h kE = kE (s0 :: s1 :: s2 :: s3 :: s4 :: s5 :: s6 :: s7 :: s8 :: s9 :: s10 :: s11 :: s12 :: s13 :: s14 :: s15 :: s16 :: s17 :: s18 :: s19 :: s20 :: some (.sh n d) :: r) (.sh n d) := id rfl
@[simp ↓] theorem eO_21 {s0 s1 s2 s3 s4 s5 s6 s7 s8 s9 s10 s11 s12 s13 s14 s15 s16 s17 s18 s19 s20 : Option Sl} : cE (fVar 21) (s0 :: s1 :: s2 :: s3 :: s4 :: s5 :: s6 :: s7 :: s8 :: s9 :: s10 :: s11 :: s12 :: s13 :: s14 :: s15 :: s16 :: s17 :: s18 :: s19 :: s20 :: some (.ow n ds) :: r) h kE = kE (s0 :: s1 :: s2 :: s3 :: s4 :: s5 :: s6 :: s7 :: s8 :: s9 :: s10 :: s11 :: s12 :: s13 :: s14 :: s15 :: s16 :: s17 :: s18 :: s19 :: s20 :: some (.ow n ds) :: r) (.own 21) := id rfl
@[simp ↓] theorem eSl_21 {s0 s1 s2 s3 s4 s5 s6 s7 s8 s9 s10 s11 s12 s13 s14 s15 s16 s17 s18 s19 s20 : Option Sl} : cE (fVar 21) (lent (s0 :: s1 :: s2 :: s3 :: s4 :: s5 :: s6 :: s7 :: s8 :: s9 :: s10 :: s11 :: s12 :: s13 :: s14 :: s15 :: s16 :: s17 :: s18 :: s19 :: s20 :: some (.sh n d) :: r)) h kE = kE (lent (s0 :: s1 :: s2 :: s3 :: s4 :: s5 :: s6 :: s7 :: s8 :: s9 :: s10 :: s11 :: s12 :: s13 :: s14 :: s15 :: s16 :: s17 :: s18 :: s19 :: s20 :: some (.sh n d) :: r)) (.sh n d) := id rfl
@[simp ↓] theorem eOl_21 {s0 s1 s2 s3 s4 s5 s6 s7 s8 s9 s10 s11 s12 s13 s14 s15 s16 s17 s18 s19 s20 : Option Sl} : cE (fVar 21) (lent (s0 :: s1 :: s2 :: s3 :: s4 :: s5 :: s6 :: s7 :: s8 :: s9 :: s10 :: s11 :: s12 :: s13 :: s14 :: s15 :: s16 :: s17 :: s18 :: s19 :: s20 :: some (.ow n ds) :: r)) h kE = kE (lent (s0 :: s1 :: s2 :: s3 :: s4 :: s5 :: s6 :: s7 :: s8 :: s9 :: s10 :: s11 :: s12 :: s13 :: s14 :: s15 :: s16 :: s17 :: s18 :: s19 :: s20 :: some (.ow n ds) :: r)) (.sh n (.list ds)) := id rfl
@[simp ↓] theorem vS_21 {s0 s1 s2 s3 s4 s5 s6 s7 s8 s9 s10 s11 s12 s13 s14 s15 s16 s17 s18 s19 s20 : Option Sl} : cV (rd (fVar 21)) (s0 :: s1 :: s2 :: s3 :: s4 :: s5 :: s6 :: s7 :: s8 :: s9 :: s10 :: s11 :: s12 :: s13 :: s14 :: s15 :: s16 :: s17 :: s18 :: s19 :: s20 :: some (.sh n d) :: r) h kV = kV (s0 :: s1 :: s2 :: s3 :: s4 :: s5 :: s6 :: s7 :: s8 :: s9 :: s10 :: s11 :: s12 :: s13 :: s14 :: s15 :: s16 :: s17 :: s18 :: s19 :: s20 :: some (.sh n d) :: r) n d := id rfl
@[simp ↓] theorem vO_21 {s0 s1 s2 s3 s4 s5 s6 s7 s8 s9 s10 s11 s12 s13 s14 s15 s16 s17 s18 s19 s20 : Option Sl} : cV (rd (fVar 21)) (s0 :: s1 :: s2 :: s3 :: s4 :: s5 :: s6 :: s7 :: s8 :: s9 :: s10 :: s11 :: s12 :: s13 :: s14 :: s15 :: s16 :: s17 :: s18 :: s19 :: s20 :: some (.ow n ds) :: r) h kV = kV (s0 :: s1 :: s2 :: s3 :: s4 :: s5 :: s6 :: s7 :: s8 :: s9 :: s10 :: s11 :: s12 :: s13 :: s14 :: s15 :: s16 :: s17 :: s18 :: s19 :: s20 :: some (.ow n ds) :: r) n (.list ds) := id rfl
@[simp ↓] theorem vSl_21 {s0 s1 s2 s3 s4 s5 s6 s7 s8 s9 s10 s11 s12 s13 s14 s15 s16 s17 s18 s19 s20 : Option Sl} : cV (rd (fVar 21)) (lent (s0 :: s1 :: s2 :: s3 :: s4 :: s5 :: s6 :: s7 :: s8 :: s9 :: s10 :: s11 :: s12 :: s13 :: s14 :: s15 :: s16 :: s17 :: s18 :: s19 :: s20 :: some (.sh n d) :: r)) h kV = kV (lent (s0 :: s1 :: s2 :: s3 :: s4 :: s5 :: s6 :: s7 :: s8 :: s9 :: s10 :: s11 :: s12 :: s13 :: s14 :: s15 :: s16 :: s17 :: s18 :: s19 :: s20 :: some (.sh n d) :: r)) n d := id rfl
@[simp ↓] theorem vOl_21 {s0 s1 s2 s3 s4 s5 s6 s7 s8 s9 s10 s11 s12 s13 s14 s15 s16 s17 s18 s19 s20 : Option Sl} : cV (rd (fVar 21)) (lent (s0 :: s1 :: s2 :: s3 :: s4 :: s5 :: s6 :: s7 :: s8 :: s9 :: s10 :: s11 :: s12 :: s13 :: s14 :: s15 :: s16 :: s17 :: s18 :: s19 :: s20 :: some (.ow n ds) :: r)) h kV = kV (lent (s0 :: s1 :: s2 :: s3 :: s4 :: s5 :: s6 :: s7 :: s8 :: s9 :: s10 :: s11 :: s12 :: s13 :: s14 :: s15 :: s16 :: s17 :: s18 :: s19 :: s20 :: some (.ow n ds) :: r)) n (.list ds) := id rfl
@[simp ↓] theorem kS_21 {s0 s1 s2 s3 s4 s5 s6 s7 s8 s9 s10 s11 s12 s13 s14 s15 s16 s17 s18 s19 s20 : Option Sl} : cV (st (fVar 21)) (s0 :: s1 :: s2 :: s3 :: s4 :: s5 :: s6 :: s7 :: s8 :: s9 :: s10 :: s11 :: s12 :: s13 :: s14 :: s15 :: s16 :: s17 :: s18 :: s19 :: s20 :: some (.sh n d) :: r) h kV = kV (s0 :: s1 :: s2 :: s3 :: s4 :: s5 :: s6 :: s7 :: s8 :: s9 :: s10 :: s11 :: s12 :: s13 :: s14 :: s15 :: s16 :: s17 :: s18 :: s19 :: s20 :: some (.sh n d) :: r) n d := id rfl
@[simp ↓] theorem kO_21 {s0 s1 s2 s3 s4 s5 s6 s7 s8 s9 s10 s11 s12 s13 s14 s15 s16 s17 s18 s19 s20 : Option Sl} : cV (st (fVar 21)) (s0 :: s1 :: s2 :: s3 :: s4 :: s5 :: s6 :: s7 :: s8 :: s9 :: s10 :: s11 :: s12 :: s13 :: s14 :: s15 :: s16 :: s17 :: s18 :: s19 :: s20 :: some (.ow n ds) :: r) h kV = kV (s0 :: s1 :: s2 :: s3 :: s4 :: s5 :: s6 :: s7 :: s8 :: s9 :: s10 :: s11 :: s12 :: s13 :: s14 :: s15 :: s16 :: s17 :: s18 :: s19 :: s20 :: some (.sh n (.list ds)) :: r) n (.list ds) := id rfl
@[simp ↓] theorem kSl_21 {s0 s1 s2 s3 s4 s5 s6 s7 s8 s9 s10 s11 s12 s13 s14 s15 s16 s17 s18 s19 s20 : Option Sl} : cV (st (fVar 21)) (lent (s0 :: s1 :: s2 :: s3 :: s4 :: s5 :: s6 :: s7 :: s8 :: s9 :: s10 :: s11 :: s12 :: s13 :: s14 :: s15 :: s16 :: s17 :: s18 :: s19 :: s20 :: some (.sh n d) :: r)) h kV = kV (lent (s0 :: s1 :: s2 :: s3 :: s4 :: s5 :: s6 :: s7 :: s8 :: s9 :: s10 :: s11 :: s12 :: s13 :: s14 :: s15 :: s16 :: s17 :: s18 :: s19 :: s20 :: some (.sh n d) :: r)) n d := id rfl
@[simp ↓] theorem kOl_21 {s0 s1 s2 s3 s4 s5 s6 s7 s8 s9 s10 s11 s12 s13 s14 s15 s16 s17 s18 s19 s20 : Option Sl} : cV (st (fVar 21)) (lent (s0 :: s1 :: s2 :: s3 :: s4 :: s5 :: s6 :: s7 :: s8 :: s9 :: s10 :: s11 :: s12 :: s13 :: s14 :: s15 :: s16 :: s17 :: s18 :: s19 :: s20 :: some (.ow n ds) :: r)) h kV = kV (lent (s0 :: s1 :: s2 :: s3 :: s4 :: s5 :: s6 :: s7 :: s8 :: s9 :: s10 :: s11 :: s12 :: s13 :: s14 :: s15 :: s16 :: s17 :: s18 :: s19 :: s20 :: some (.sh n (.list ds)) :: r)) n (.list ds) := id rfl
@[simp ↓] theorem p_21 {s0 s1 s2 s3 s4 s5 s6 s7 s8 s9 s10 s11 s12 s13 s14 s15 s16 s17 s18 s19 s20 : Option Sl} : cP 21 (s0 :: s1 :: s2 :: s3 :: s4 :: s5 :: s6 :: s7 :: s8 :: s9 :: s10 :: s11 :: s12 :: s13 :: s14 :: s15 :: s16 :: s17 :: s18 :: s19 :: s20 :: x :: r) y kP = kP (s0 :: s1 :: s2 :: s3 :: s4 :: s5 :: s6 :: s7 :: s8 :: s9 :: s10 :: s11 :: s12 :: s13 :: s14 :: s15 :: s16 :: s17 :: s18 :: s19 :: s20 :: y :: r) := id rfl
@[simp ↓] theorem rO_21 {s0 s1 s2 s3 s4 s5 s6 s7 s8 s9 s10 s11 s12 s13 s14 s15 s16 s17 s18 s19 s20 : Option Sl} : reK (s0 :: s1 :: s2 :: s3 :: s4 :: s5 :: s6 :: s7 :: s8 :: s9 :: s10 :: s11 :: s12 :: s13 :: s14 :: s15 :: s16 :: s17 :: s18 :: s19 :: s20 :: some (.ow n ds) :: r) (.own 21) h kO = kO (.rt (.nw n ds)) := id rfl
@[simp ↓] theorem iO_21 {s0 s1 s2 s3 s4 s5 s6 s7 s8 s9 s10 s11 s12 s13 s14 s15 s16 s17 s18 s19 s20 : Option Sl} {z : Rs β} : grd (isOw (gt (s0 :: s1 :: s2 :: s3 :: s4 :: s5 :: s6 :: s7 :: s8 :: s9 :: s10 :: s11 :: s12 :: s13 :: s14 :: s15 :: s16 :: s17 :: s18 :: s19 :: s20 :: some (.ow n ds) :: r) 21)) z = z := id rfl
@[simp ↓] theorem rdO_21 {s0 s1 s2 s3 s4 s5 s6 s7 s8 s9 s10 s11 s12 s13 s14 s15 s16 s17 s18 s19 s20 : Option Sl} : rdK (s0 :: s1 :: s2 :: s3 :: s4 :: s5 :: s6 :: s7 :: s8 :: s9 :: s10 :: s11 :: s12 :: s13 :: s14 :: s15 :: s16 :: s17 :: s18 :: s19 :: s20 :: some (.ow n ds) :: r) (.own 21) h kV = kV (s0 :: s1 :: s2 :: s3 :: s4 :: s5 :: s6 :: s7 :: s8 :: s9 :: s10 :: s11 :: s12 :: s13 :: s14 :: s15 :: s16 :: s17 :: s18 :: s19 :: s20 :: some (.ow n ds) :: r) n (.list ds) := id rfl
@[simp ↓] theorem stO_21 {s0 s1 s2 s3 s4 s5 s6 s7 s8 s9 s10 s11 s12 s13 s14 s15 s16 s17 s18 s19 s20 : Option Sl} : stK (s0 :: s1 :: s2 :: s3 :: s4 :: s5 :: s6 :: s7 :: s8 :: s9 :: s10 :: s11 :: s12 :: s13 :: s14 :: s15 :: s16 :: s17 :: s18 :: s19 :: s20 :: some (.ow n ds) :: r) (.own 21) h kV = kV (s0 :: s1 :: s2 :: s3 :: s4 :: s5 :: s6 :: s7 :: s8 :: s9 :: s10 :: s11 :: s12 :: s13 :: s14 :: s15 :: s16 :: s17 :: s18 :: s19 :: s20 :: some (.sh n (.list ds)) :: r) n (.list ds) := id rfl
@[simp ↓] theorem pO_21 {s0 s1 s2 s3 s4 s5 s6 s7 s8 s9 s10 s11 s12 s13 s14 s15 s16 s17 s18 s19 s20 : Option Sl} {i : Nat} : puK i (s0 :: s1 :: s2 :: s3 :: s4 :: s5 :: s6 :: s7 :: s8 :: s9 :: s10 :: s11 :: s12 :: s13 :: s14 :: s15 :: s16 :: s17 :: s18 :: s19 :: s20 :: some (.ow n ds) :: r) (.own 21) h kP = cP i (s0 :: s1 :: s2 :: s3 :: s4 :: s5 :: s6 :: s7 :: s8 :: s9 :: s10 :: s11 :: s12 :: s13 :: s14 :: s15 :: s16 :: s17 :: s18 :: s19 :: s20 :: some (.sh n (.list ds)) :: r) (some (.sh n (.list ds))) kP := id rfl
@[simp ↓ low] theorem aO_21 {s0 s1 s2 s3 s4 s5 s6 s7 s8 s9 s10 s11 s12 s13 s14 s15 s16 s17 s18 s19 s20 : Option Sl} : apK 21 (s0 :: s1 :: s2 :: s3 :: s4 :: s5 :: s6 :: s7 :: s8 :: s9 :: s10 :: s11 :: s12 :: s13 :: s14 :: s15 :: s16 :: s17 :: s18 :: s19 :: s20 :: some (.ow n ds) :: r) m d h kO = grd (decide (ds.length < 1000000)) (kO (.nx (s0 :: s1 :: s2 :: s3 :: s4 :: s5 :: s6 :: s7 :: s8 :: s9 :: s10 :: s11 :: s12 :: s13 :: s14 :: s15 :: s16 :: s17 :: s18 :: s19 :: s20 :: some (.ow (n && m) (ds ++ [d])) :: r))) := by
  exact on_grd _ _ _ _
@[simp ↓ low] theorem sO_21 {s0 s1 s2 s3 s4 s5 s6 s7 s8 s9 s10 s11 s12 s13 s14 s15 s16 s17 s18 s19 s20 : Option Sl} (z : 0 ≤ j ∧ j < ds.length) : siK 21 (s0 :: s1 :: s2 :: s3 :: s4 :: s5 :: s6 :: s7 :: s8 :: s9 :: s10 :: s11 :: s12 :: s13 :: s14 :: s15 :: s16 :: s17 :: s18 :: s19 :: s20 :: some (.ow n ds) :: r) m d (.int j) h kO = kO (.nx (s0 :: s1 :: s2 :: s3 :: s4 :: s5 :: s6 :: s7 :: s8 :: s9 :: s10 :: s11 :: s12 :: s13 :: s14 :: s15 :: s16 :: s17 :: s18 :: s19 :: s20 :: some (.ow (n && m) (ds.set j.toNat d)) :: r)) := by
  unfold siK; rw [show gt (s0 :: s1 :: s2 :: s3 :: s4 :: s5 :: s6 :: s7 :: s8 :: s9 :: s10 :: s11 :: s12 :: s13 :: s14 :: s15 :: s16 :: s17 :: s18 :: s19 :: s20 :: some (.ow n ds) :: r) 21 = some (.ow n ds) from rfl, setS_ow, ixN_in z]; rfl
@[simp ↓] theorem aOm_21 {s0 s1 s2 s3 s4 s5 s6 s7 s8 s9 s10 s11 s12 s13 s14 s15 s16 s17 s18 s19 s20 : Option Sl} : apK 21 (s0 :: s1 :: s2 :: s3 :: s4 :: s5 :: s6 :: s7 :: s8 :: s9 :: s10 :: s11 :: s12 :: s13 :: s14 :: s15 :: s16 :: s17 :: s18 :: s19 :: s20 :: some (.ow n (xs.map c)) :: r) m (c z) h kO = grd (decide (xs.length < 1000000)) (kO (.nx (s0 :: s1 :: s2 :: s3 :: s4 :: s5 :: s6 :: s7 :: s8 :: s9 :: s10 :: s11 :: s12 :: s13 :: s14 :: s15 :: s16 :: s17 :: s18 :: s19 :: s20 :: some (.ow (n && m) ((xs ++ [z]).map c)) :: r))) := by
  rw [aO_21, List.length_map, map_snoc]
@[simp ↓] theorem sOm_21 {s0 s1 s2 s3 s4 s5 s6 s7 s8 s9 s10 s11 s12 s13 s14 s15 s16 s17 s18 s19 s20 : Option Sl} (q : 0 ≤ j ∧ j < xs.length) : siK 21 (s0 :: s1 :: s2 :: s3 :: s4 :: s5 :: s6 :: s7 :: s8 :: s9 :: s10 :: s11 :: s12 :: s13 :: s14 :: s15 :: s16 :: s17 :: s18 :: s19 :: s20 :: some (.ow n (xs.map c)) :: r) m (c z) (.int j) h kO = kO (.nx (s0 :: s1 :: s2 :: s3 :: s4 :: s5 :: s6 :: s7 :: s8 :: s9 :: s10 :: s11 :: s12 :: s13 :: s14 :: s15 :: s16 :: s17 :: s18 :: s19 :: s20 :: some (.ow (n && m) ((ist xs j z).map c)) :: r)) := by
  rw [sO_21 (by rw [List.length_map]; exact q), map_set]; rfl
@[simp ↓] theorem eS_22 {s0 s1 s2 s3 s4 s5 s6 s7 s8 s9 s10 s11 s12 s13 s14 s15 s16 s17 s18 s19 s20 s21 : Option Sl} : cE (fVar 22) (s0 :: s1 :: s2 :: s3 :: s4 :: s5 :: s6 :: s7 :: s8 :: s9 :: s10 :: s11 :: s12 :: s13 :: s14 :: s15 :: s16 :: s17 :: s18 :: s19 :: s20 :: s21 :: some (.sh n d) :: r) h kE = kE (s0 :: s1 :: s2 :: s3 :: s4 :: s5 :: s6 :: s7 :: s8 :: s9 :: s10 :: s11 :: s12 :: s13 :: s14 :: s15 :: s16 :: s17 :: s18 :: s19 :: s20 :: s21 :: some (.sh n d) :: r) (.sh n d) := id rfl
@[simp ↓] theorem eO_22 {s0 s1 s2 s3 s4 s5 s6 s7 s8 s9 s10 s11 s12 s13 s14 s15 s16 s17 s18 s19 s20 s21 : Option Sl} : cE (fVar 22) (s0 :: s1 :: s2 :: s3 :: s4 :: s5 :: s6 :: s7 :: s8 :: s9 :: s10 :: s11 :: s12 :: s13 :: s14 :: s15 :: s16 :: s17 :: s18 :: s19 :: s20 :: s21 :: some (.ow n ds) :: r) h kE = kE (s0 :: s1 :: s2 :: s3 :: s4 :: s5 :: s6 :: s7 :: s8 :: s9 :: s10 :: s11 :: s12 :: s13 :: s14 :: s15 :: s16 :: s17 :: s18 :: s19 :: s20 :: s21 :: some (.ow n ds) :: r) (.own 22) := id rfl
@[simp ↓] theorem eSl_22 {s0 s1 s2 s3 s4 s5 s6 s7 s8 s9 s10 s11 s12 s13 s14 s15 s16 s17 s18 s19 s20 s21 : Option Sl} : cE (fVar 22) (lent (s0 :: s1 :: s2 :: s3 :: s4 :: s5 :: s6 :: s7 :: s8 :: s9 :: s10 :: s11 :: s12 :: s13 :: s14 :: s15 :: s16 :: s17 :: s18 :: s19 :: s20 :: s21 :: some (.sh n d) :: r)) h kE = kE (lent (s0 :: s1 :: s2 :: s3 :: s4 :: s5 :: s6 :: s7 :: s8 :: s9 :: s10 :: s11 :: s12 :: s13 :: s14 :: s15 :: s16 :: s17 :: s18 :: s19 :: s20 :: s21 :: some (.sh n d) :: r)) (.sh n d) := id rfl
@[simp ↓] theorem eOl_22 {s0 s1 s2 s3 s4 s5 s6 s7 s8 s9 s10 s11 s12 s13 s14 s15 s16 s17 s18 s19 s20 s21 : Option Sl} : cE (fVar 22) (lent (s0 :: s1 :: s2 :: s3 :: s4 :: s5 :: s6 :: s7 :: s8 :: s9 :: s10 :: s11 :: s12 :: s13 :: s14 :: s15 :: s16 :: s17 :: s18 :: s19 :: s20 :: s21 :: some (.ow n ds) :: r)) h kE = kE (lent (s0 :: s1 :: s2 :: s3 :: s4 :: s5 :: s6 :: s7 :: s8 :: s9 :: s10 :: s11 :: s12 :: s13 :: s14 :: s15 :: s16 :: s17 :: s18 :: s19 :: s20 :: s21 :: some (.ow n ds) :: r)) (.sh n (.list ds)) := id rfl
@[simp ↓] theorem vS_22 {s0 s1 s2 s3 s4 s5 s6 s7 s8 s9 s10 s11 s12 s13 s14 s15 s16 s17 s18 s19 s20 s21 : Option Sl} : cV (rd (fVar 22)) (s0 :: s1 :: s2 :: s3 :: s4 :: s5 :: s6 :: s7 :: s8 :: s9 :: s10 :: s11 :: s12 :: s13 :: s14 :: s15 :: s16 :: s17 :: s18 :: s19 :: s20 :: s21 :: some (.sh n d) :: r) h kV = kV (s0 :: s1 :: s2 :: s3 :: s4 :: s5 :: s6 :: s7 :: s8 :: s9 :: s10 :: s11 :: s12 :: s13 :: s14 :: s15 :: s16 :: s17 :: s18 :: s19 :: s20 :: s21 :: some (.sh n d) :: r) n d := id rfl
@[simp ↓] theorem vO_22 {s0 s1 s2 s3 s4 s5 s6 s7 s8 s9 s10 s11 s12 s13 s14 s15 s16 s17 s18 s19 s20 s21 : Option Sl} : cV (rd (fVar 22)) (s0 :: s1 :: s2 :: s3 :: s4 :: s5 :: s6 :: s7 :: s8 :: s9 :: s10 :: s11 :: s12 :: s13 :: s14 :: s15 :: s16 :: s17 :: s18 :: s19 :: s20 :: s21 :: some (.ow n ds) :: r) h kV = kV (s0 :: s1 :: s2 :: s3 :: s4 :: s5 :: s6 :: s7 :: s8 :: s9 :: s10 :: s11 :: s12 :: s13 :: s14 :: s15 :: s16 :: s17 :: s18 :: s19 :: s20 :: s21 :: some (.ow n ds) :: r) n (.list ds) := id rfl
@[simp ↓] theorem vSl_22 {s0 s1 s2 s3 s4 s5 s6 s7 s8 s9 s10 s11 s12 s13 s14 s15 s16 s17 s18 s19 s20 s21 : Option Sl} : cV (rd (fVar 22)) (lent (s0 :: s1 :: s2 :: s3 :: s4 :: s5 :: s6 :: s7 :: s8 :: s9 :: s10 :: s11 :: s12 :: s13 :: s14 :: s15 :: s16 :: s17 :: s18 :: s19 :: s20 :: s21 :: some (.sh n d) :: r)) h kV = kV (lent (s0 :: s1 :: s2 :: s3 :: s4 :: s5 :: s6 :: s7 :: s8 :: s9 :: s10 :: s11 :: s12 :: s13 :: s14 :: s15 :: s16 :: s17 :: s18 :: s19 :: s20 :: s21 :: some (.sh n d) :: r)) n d := id rfl
@[simp ↓] theorem vOl_22 {s0 s1 s2 s3 s4 s5 s6 s7 s8 s9 s10 s11 s12 s13 s14 s15 s16 s17 s18 s19 s20 s21 : Option Sl} : cV (rd (fVar 22)) (lent (s0 :: s1 :: s2 :: s3 :: s4 :: s5 :: s6 :: s7 :: s8 :: s9 :: s10 :: s11 :: s12 :: s13 :: s14 :: s15 :: s16 :: s17 :: s18 :: s19 :: s20 :: s21 :: some (.ow n ds) :: r)) h kV = kV (lent (s0 :: s1 :: s2 :: s3 :: s4 :: s5 :: s6 :: s7 :: s8 :: s9 :: s10 :: s11 :: s12 :: s13 :: s14 :: s15 :: s16 :: s17 :: s18 :: s19 :: s20 :: s21 :: some (.ow n ds) :: r)) n (.list ds) := id rfl
@[simp ↓] theorem kS_22 {s0 s1 s2 s3 s4 s5 s6 s7 s8 s9 s10 s11 s12 s13 s14 s15 s16 s17 s18 s19 s20 s21 : Option Sl} : cV (st (fVar 22)) (s0 :: s1 :: s2 :: s3 :: s4 :: s5 :: s6 :: s7 :: s8 :: s9 :: s10 :: s11 :: s12 :: s13 :: s14 :: s15 :: s16 :: s17 :: s18 :: s19 :: s20 :: s21 :: some (.sh n d) :: r) h kV = kV (s0 :: s1 :: s2 :: s3 :: s4 :: s5 :: s6 :: s7 :: s8 :: s9 :: s10 :: s11 :: s12 :: s13 :: s14 :: s15 :: s16 :: s17 :: s18 :: s19 :: s20 :: s21 :: some (.sh n d) :: r) n d := id rfl
@[simp ↓] theorem kO_22 {s0 s1 s2 s3 s4 s5 s6 s7 s8 s9 s10 s11 s12 s13 s14 s15 s16 s17 s18 s19 s20 s21 : Option Sl} : cV (st (fVar 22)) (s0 :: s1 :: s2 :: s3 :: s4 :: s5 :: s6 :: s7 :: s8 :: s9 :: s10 :: s11 :: s12 :: s13 :: s14 :: s15 :: s16 :: s17 :: s18 :: s19 :: s20 :: s21 :: some (.ow n ds) :: r) h kV = kV (s0 :: s1 :: s2 :: s3 :: s4 :: s5 :: s6 :: s7 :: s8 :: s9 :: s10 :: s11 :: s12 :: s13 :: s14 :: s15 :: s16 :: s17 :: s18 :: s19 :: s20 :: s21 :: some (.sh n (.list ds)) :: r) n (.list ds) := id rfl
@[simp ↓] theorem kSl_22 {s0 s1 s2 s3 s4 s5 s6 s7 s8 s9 s10 s11 s12 s13 s14 s15 s16 s17 s18 s19 s20 s21 : Option Sl} : cV (st (fVar 22)) (lent (s0 :: s1 :: s2 :: s3 :: s4 :: s5 :: s6 :: s7 :: s8 :: s9 :: s10 :: s11 :: s12 :: s13 :: s14 :: s15 :: s16 :: s17 :: s18 :: s19 :: s20 :: s21 :: some (.sh n d) :: r)) h kV = kV (lent (s0 :: s1 :: s2 :: s3 :: s4 :: s5 :: s6 :: s7 :: s8 :: s9 :: s10 :: s11 :: s12 :: s13 :: s14 :: s15 :: s16 :: s17 :: s18 :: s19 :: s20 :: s21 :: some (.sh n d) :: r)) n d := id rfl
@[simp ↓] theorem kOl_22 {s0 s1 s2 s3 s4 s5 s6 s7 s8 s9 s10 s11 s12 s13 s14 s15 s16 s17 s18 s19 s20 s21 : Option Sl} : cV (st (fVar 22)) (lent (s0 :: s1 :: s2 :: s3 :: s4 :: s5 :: s6 :: s7 :: s8 :: s9 :: s10 :: s11 :: s12 :: s13 :: s14 :: s15 :: s16 :: s17 :: s18 :: s19 :: s20 :: s21 :: some (.ow n ds) :: r)) h kV = kV (lent (s0 :: s1 :: s2 :: s3 :: s4 :: s5 :: s6 :: s7 :: s8 :: s9 :: s10 :: s11 :: s12 :: s13 :: s14 :: s15 :: s16 :: s17 :: s18 :: s19 :: s20 :: s21 :: some (.sh n (.list ds)) :: r)) n (.list ds) := id rfl
@[simp ↓] theorem p_22 {s0 s1 s2 s3 s4 s5 s6 s7 s8 s9 s10 s11 s12 s13 s14 s15 s16 s17 s18 s19 s20 s21 : Option Sl} : cP 22 (s0 :: s1 :: s2 :: s3 :: s4 :: s5 :: s6 :: s7 :: s8 :: s9 :: s10 :: s11 :: s12 :: s13 :: s14 :: s15 :: s16 :: s17 :: s18 :: s19 :: s20 :: s21 :: x :: r) y kP = kP (s0 :: s1 :: s2 :: s3 :: s4 :: s5 :: s6 :: s7 :: s8 :: s9 :: s10 :: s11 :: s12 :: s13 :: s14 :: s15 :: s16 :: s17 :: s18 :: s19 :: s20 :: s21 :: y :: r) := id rfl
@[simp ↓] theorem rO_22 {s0 s1 s2 s3 s4 s5 s6 s7 s8 s9 s10 s11 s12 s13 s14 s15 s16 s17 s18 s19 s20 s21 : Option Sl} : reK (s0 :: s1 :: s2 :: s3 :: s4 :: s5 :: s6 :: s7 :: s8 :: s9 :: s10 :: s11 :: s12 :: s13 :: s14 :: s15 :: s16 :: s17 :: s18 :: s19 :: s20 :: s21 :: some (.ow n ds) :: r) (.own 22) h kO = kO (.rt (.nw n ds)) := id rfl
@[simp ↓] theorem iO_22 {s0 s1 s2 s3 s4 s5 s6 s7 s8 s9 s10 s11 s12 s13 s14 s15 s16 s17 s18 s19 s20 s21 : Option Sl} {z : Rs β} : grd (isOw (gt (s0 :: s1 :: s2 :: s3 :: s4 :: s5 :: s6 :: s7 :: s8 :: s9 :: s10 :: s11 :: s12 :: s13 :: s14 :: s15 :: s16 :: s17 :: s18 :: s19 :: s20 :: s21 :: some (.ow n ds) :: r) 22)) z = z := id rfl
@[simp ↓] theorem rdO_22 {s0 s1 s2 s3 s4 s5 s6 s7 s8 s9 s10 s11 s12 s13 s14 s15 s16 s17 s18 s19 s20 s21 : Option Sl} : rdK (s0 :: s1 :: s2 :: s3 :: s4 :: s5 :: s6 :: s7 :: s8 :: s9 :: s10 :: s11 :: s12 :: s13 :: s14 :: s15 :: s16 :: s17 :: s18 :: s19 :: s20 :: s21 :: some (.ow n ds) :: r) (.own 22) h kV = kV (s0 :: s1 :: s2 :: s3 :: s4 :: s5 :: s6 :: s7 :: s8 :: s9 :: s10 :: s11 :: s12 :: s13 :: s14 :: s15 :: s16 :: s17 :: s18 :: s19 :: s20 :: s21 :: some (.ow n ds) :: r) n (.list ds) := id rfl
@[simp ↓] theorem stO_22 {s0 s1 s2 s3 s4 s5 s6 s7 s8 s9 s10 s11 s12 s13 s14 s15 s16 s17 s18 s19 s20 s21 : Option Sl} : stK (s0 :: s1 :: s2 :: s3 :: s4 :: s5 :: s6 :: s7 :: s8 :: s9 :: s10 :: s11 :: s12 :: s13 :: s14 :: s15 :: s16 :: s17 :: s18 :: s19 :: s20 :: s21 :: some (.ow n ds) :: r) (.own 22) h kV = kV (s0 :: s1 :: s2 :: s3 :: s4 :: s5 :: s6 :: s7 :: s8 :: s9 :: s10 :: s11 :: s12 :: s13 :: s14 :: s15 :: s16 :: s17 :: s18 :: s19 :: s20 :: s21 :: some (.sh n (.list ds)) :: r) n (.list ds) := id rfl
@[simp ↓] theorem pO_22 {s0 s1 s2 s3 s4 s5 s6 s7 s8 s9 s10 s11 s12 s13 s14 s15 s16 s17 s18 s19 s20 s21 : Option Sl} {i : Nat} : puK i (s0 :: s1 :: s2 :: s3 :: s4 :: s5 :: s6 :: s7 :: s8 :: s9 :: s10 :: s11 :: s12 :: s13 :: s14 :: s15 :: s16 :: s17 :: s18 :: s19 :: s20 :: s21 :: some (.ow n ds) :: r) (.own 22) h kP = cP i (s0 :: s1 :: s2 :: s3 :: s4 :: s5 :: s6 :: s7 :: s8 :: s9 :: s10 :: s11 :: s12 :: s13 :: s14 :: s15 :: s16 :: s17 :: s18 :: s19 :: s20 :: s21 :: some (.sh n (.list ds)) :: r) (some (.sh n (.list ds))) kP := id rfl
@[simp ↓ low] theorem aO_22 {s0 s1 s2 s3 s4 s5 s6 s7 s8 s9 s10 s11 s12 s13 s14 s15 s16 s17 s18 s19 s20 s21 : Option Sl} : apK 22 (s0 :: s1 :: s2 :: s3 :: s4 :: s5 :: s6 :: s7 :: s8 :: s9 :: s10 :: s11 :: s12 :: s13 :: s14 :: s15 :: s16 :: s17 :: s18 :: s19 :: s20 :: s21 :: some (.ow n ds) :: r) m d h kO = grd (decide (ds.length < 1000000)) (kO (.nx (s0 :: s1 :: s2 :: s3 :: s4 :: s5 :: s6 :: s7 :: s8 :: s9 :: s10 :: s11 :: s12 :: s13 :: s14 :: s15 :: s16 :: s17 :: s18 :: s19 :: s20 :: s21 :: some (.ow (n && m) (ds ++ [d])) :: r))) := by
  exact on_grd _ _ _ _
@[simp ↓ low] theorem sO_22 {s0 s1 s2 s3 s4 s5 s6 s7 s8 s9 s10 s11 s12 s13 s14 s15 s16 s17 s18 s19 s20 s21 : Option Sl} (z : 0 ≤ j ∧ j < ds.length) : siK 22 (s0 :: s1 :: s2 :: s3 :: s4 :: s5 :: s6 :: s7 :: s8 :: s9 :: s10 :: s11 :: s12 :: s13 :: s14 :: s15 :: s16 :: s17 :: s18 :: s19 :: s20 :: s21 :: some (.ow n ds) :: r) m d (.int j) h kO = kO (.nx (s0 :: s1 :: s2 :: s3 :: s4 :: s5 :: s6 :: s7 :: s8 :: s9 :: s10 :: s11 :: s12 :: s13 :: s14 :: s15 :: s16 :: s17 :: s18 :: s19 :: s20 :: s21 :: some (.ow (n && m) (ds.set j.toNat d)) :: r)) := by
  unfold siK; rw [show gt (s0 :: s1 :: s2 :: s3 :: s4 :: s5 :: s6 :: s7 :: s8 :: s9 :: s10 :: s11 :: s12 :: s13 :: s14 :: s15 :: s16 :: s17 :: s18 :: s19 :: s20 :: s21 :: some (.ow n ds) :: r) 22 = some (.ow n ds) from rfl, setS_ow, ixN_in z]; rfl
@[simp ↓] theorem aOm_22 {s0 s1 s2 s3 s4 s5 s6 s7 s8 s9 s10 s11 s12 s13 s14 s15 s16 s17 s18 s19 s20 s21 : Option Sl} : apK 22 (s0 :: s1 :: s2 :: s3 :: s4 :: s5 :: s6 :: s7 :: s8 :: s9 :: s10 :: s11 :: s12 :: s13 :: s14 :: s15 :: s16 :: s17 :: s18 :: s19 :: s20 :: s21 :: some (.ow n (xs.map c)) :: r) m (c z) h kO = grd (decide (xs.length < 1000000)) (kO (.nx (s0 :: s1 :: s2 :: s3 :: s4 :: s5 :: s6 :: s7 :: s8 :: s9 :: s10 :: s11 :: s12 :: s13 :: s14 :: s15 :: s16 :: s17 :: s18 :: s19 :: s20 :: s21 :: some (.ow (n && m) ((xs ++ [z]).map c)) :: r))) := by
  rw [aO_22, List.length_map, map_snoc]
@[simp ↓] theorem sOm_22 {s0 s1 s2 s3 s4 s5 s6 s7 s8 s9 s10 s11 s12 s13 s14 s15 s16 s17 s18 s19 s20 s21 : Option Sl} (q : 0 ≤ j ∧ j < xs.length) : siK 22 (s0 :: s1 :: s2 :: s3 :: s4 :: s5 :: s6 :: s7 :: s8 :: s9 :: s10 :: s11 :: s12 :: s13 :: s14 :: s15 :: s16 :: s17 :: s18 :: s19 :: s20 :: s21 :: some (.ow n (xs.map c)) :: r) m (c z) (.int j) h kO = kO (.nx (s0 :: s1 :: s2 :: s3 :: s4 :: s5 :: s6 :: s7 :: s8 :: s9 :: s10 :: s11 :: s12 :: s13 :: s14 :: s15 :: s16 :: s17 :: s18 :: s19 :: s20 :: s21 :: some (.ow (n && m) ((ist xs j z).map c)) :: r)) := by
  rw [sO_22 (by rw [List.length_map]; exact q), map_set]; rfl
@[simp ↓] theorem eS_23 {s0 s1 s2 s3 s4 s5 s6 s7 s8 s9 s10 s11 s12 s13 s14 s15 s16 s17 s18 s19 s20 s21 s22 : Option Sl} : cE (fVar 23) (s0 :: s1 :: s2 :: s3 :: s4 :: s5 :: s6 :: s7 :: s8 :: s9 :: s10 :: s11 :: s12 :: s13 :: s14 :: s15 :: s16 :: s17 :: s18 :: s19 :: s20 :: s21 :: s22 :: some (.sh n d) :: r) h kE = kE (s0 :: s1 :: s2 :: s3 :: s4 :: s5 :: s6 :: s7 :: s8 :: s9 :: s10 :: s11 :: s12 :: s13 :: s14 :: s15 :: s16 :: s17 :: s18 :: s19 :: s20 :: s21 :: s22 :: some (.sh n d) :: r) (.sh n d) := id rfl
@[simp ↓] theorem eO_23 {s0 s1 s2 s3 s4 s5 s6 s7 s8 s9 s10 s11 s12 s13 s14 s15 s16 s17 s18 s19 s20 s21 s22 : Option Sl} : cE (fVar 23) (s0 :: s1 :: s2 :: s3 :: s4 :: s5 :: s6 :: s7 :: s8 :: s9 :: s10 :: s11 :: s12 :: s13 :: s14 :: s15 :: s16 :: s17 :: s18 :: s19 :: s20 :: s21 :: s22 :: some (.ow n ds) :: r) h kE = kE (s0 :: s1 :: s2 :: s3 :: s4 :: s5 :: s6 :: s7 :: s8 :: s9 :: s10 :: s11 :: s12 :: s13 :: s14 :: s15 :: s16 :: s17 :: s18 :: s19 :: s20 :: s21 :: s22 :: some (.ow n ds) :: r) (.own 23) := id rfl
@[simp ↓] theorem eSl_23 {s0 s1 s2 s3 s4 s5 s6 s7 s8 s9 s10 s11 s12 s13 s14 s15 s16 s17 s18 s19 s20 s21 s22 : Option Sl} : cE (fVar 23) (lent (s0 :: s1 :: s2 :: s3 :: s4 :: s5 :: s6 :: s7 :: s8 :: s9 :: s10 :: s11 :: s12 :: s13 :: s14 :: s15 :: s16 :: s17 :: s18 :: s19 :: s20 :: s21 :: s22 :: some (.sh n d) :: r)) h kE = kE (lent (s0 :: s1 :: s2 :: s3 :: s4 :: s5 :: s6 :: s7 :: s8 :: s9 :: s10 :: s11 :: s12 :: s13 :: s14 :: s15 :: s16 :: s17 :: s18 :: s19 :: s20 :: s21 :: s22 :: some (.sh n d) :: r)) (.sh n d) := id rfl
@[simp ↓] theorem eOl_23 {s0 s1 s2 s3 s4 s5 s6 s7 s8 s9 s10 s11 s12 s13 s14 s15 s16 s17 s18 s19 s20 s21 s22 : Option Sl} : cE (fVar 23) (lent (s0 :: s1 :: s2 :: s3 :: s4 :: s5 :: s6 :: s7 :: s8 :: s9 :: s10 :: s11 :: s12 :: s13 :: s14 :: s15 :: s16 :: s17 :: s18 :: s19 :: s20 :: s21 :: s22 :: some (.ow n ds) :: r)) h kE = kE (lent (s0 :: s1 :: s2 :: s3 :: s4 :: s5 :: s6 :: s7 :: s8 :: s9 :: s10 :: s11 :: s12 :: s13 :: s14 :: s15 :: s16 :: s17 :: s18 :: s19 :: s20 :: s21 :: s22 :: some (.ow n ds) :: r)) (.sh n (.list ds)) := id rfl
@[simp ↓] theorem vS_23 {s0 s1 s2 s3 s4 s5 s6 s7 s8 s9 s10 s11 s12 s13 s14 s15 s16 s17 s18 s19 s20 s21 s22 : Option Sl} : cV (rd (fVar 23)) (s0 :: s1 :: s2 :: s3 :: s4 :: s5 :: s6 :: s7 :: s8 :: s9 :: s10 :: s11 :: s12 :: s13 :: s14 :: s15 :: s16 :: s17 :: s18 :: s19 :: s20 :: s21 :: s22 :: some (.sh n d) :: r) h kV = kV (s0 :: s1 :: s2 :: s3 :: s4 :: s5 :: s6 :: s7 :: s8 :: s9 :: s10 :: s11 :: s12 :: s13 :: s14 :: s15 :: s16 :: s17 :: s18 :: s19 :: s20 :: s21 :: s22 :: some (.sh n d) :: r) n d := id rfl
@[simp ↓] theorem vO_23 {s0 s1 s2 s3 s4 s5 s6 s7 s8 s9 s10 s11 s12 s13 s14 s15 s16 s17 s18 s19 s20 s21 s22 : Option Sl} : cV (rd (fVar 23)) (s0 :: s1 :: s2 :: s3 :: s4 :: s5 :: s6 :: s7 :: s8 :: s9 :: s10 :: s11 :: s12 :: s13 :: s14 :: s15 :: s16 :: s17 :: s18 :: s19 :: s20 :: s21 :: s22 :: some (.ow n ds) :: r) h kV = kV (s0 :: s1 :: s2 :: s3 :: s4 :: s5 :: s6 :: s7 :: s8 :: s9 :: s10 :: s11 :: s12 :: s13 :: s14 :: s15 :: s16 :: s17 :: s18 :: s19 :: s20 :: s21 :: s22 :: some (.ow n ds) :: r) n (.list ds) := id rfl
@[simp ↓] theorem vSl_23 {s0 s1 s2 s3 s4 s5 s6 s7 s8 s9 s10 s11 s12 s13 s14 s15 s16 s17 s18 s19 s20 s21 s22 : Option Sl} : cV (rd (fVar 23)) (lent (s0 :: s1 :: s2 :: s3 :: s4 :: s5 :: s6 :: s7 :: s8 :: s9 :: s10 :: s11 :: s12 :: s13 :: s14 :: s15 :: s16 :: s17 :: s18 :: s19 :: s20 :: s21 :: s22 :: some (.sh n d) :: r)) h kV = kV (lent (s0 :: s1 :: s2 :: s3 :: s4 :: s5 :: s6 :: s7 :: s8 :: s9 :: s10 :: s11 :: s12 :: s13 :: s14 :: s15 :: s16 :: s17 :: s18 :: s19 :: s20 :: s21 :: s22 :: some (.sh n d) :: r)) n d := id rfl
@[simp ↓] theorem vOl_23 {s0 s1 s2 s3 s4 s5 s6 s7 s8 s9 s10 s11 s12 s13 s14 s15 s16 s17 s18 s19 s20 s21 s22 : Option Sl} : cV (rd (fVar 23)) (lent (s0 :: s1 :: s2 :: s3 :: s4 :: s5 :: s6 :: s7 :: s8 :: s9 :: s10 :: s11 :: s12 :: s13 :: s14 :: s15 :: s16 :: s17 :: s18 :: s19 :: s20 :: s21 :: s22 :: some (.ow n ds) :: r)) h kV = kV (lent (s0 :: s1 :: s2 :: s3 :: s4 :: s5 :: s6 :: s7 :: s8 :: s9 :: s10 :: s11 :: s12 :: s13 :: s14 :: s15 :: s16 :: s17 :: s18 :: s19 :: s20 :: s21 :: s22 :: some (.ow n ds) :: r)) n (.list ds) := id rfl
@[simp ↓] theorem kS_23 {s0 s1 s2 s3 s4 s5 s6 s7 s8 s9 s10 s11 s12 s13 s14 s15 s16 s17 s18 s19 s20 s21 s22 : Option Sl} : cV (st (fVar 23)) (s0 :: s1 :: s2 :: s3 :: s4 :: s5 :: s6 :: s7 :: s8 :: s9 :: s10 :: s11 :: s12 :: s13 :: s14 :: s15 :: s16 :: s17 :: s18 :: s19 :: s20 :: s21 :: s22 :: some (.sh n d) :: r) h kV = kV (s0 :: s1 :: s2 :: s3 :: s4 :: s5 :: s6 :: s7 :: s8 :: s9 :: s10 :: s11 :: s12 :: s13 :: s14 :: s15 :: s16 :: s17 :: s18 :: s19 :: s20 :: s21 :: s22 :: some (.sh n d) :: r) n d := id rfl
@[simp ↓] theorem kO_23 {s0 s1 s2 s3 s4 s5 s6 s7 s8 s9 s10 s11 s12 s13 s14 s15 s16 s17 s18 s19 s20 s21 s22 : Option Sl} : cV (st (fVar 23)) (s0 :: s1 :: s2 :: s3 :: s4 :: s5 :: s6 :: s7 :: s8 :: s9 :: s10 :: s11 :: s12 :: s13 :: s14 :: s15 :: s16 :: s17 :: s18 :: s19 :: s20 :: s21 :: s22 :: some (.ow n ds) :: r) h kV = kV (s0 :: s1 :: s2 :: s3 :: s4 :: s5 :: s6 :: s7 :: s8 :: s9 :: s10 :: s11 :: s12 :: s13 :: s14 :: s15 :: s16 :: s17 :: s18 :: s19 :: s20 :: s21 :: s22 :: some (.sh n (.list ds)) :: r) n (.list ds) := id rfl
@[simp ↓] theorem kSl_23 {s0 s1 s2 s3 s4 s5 s6 s7 s8 s9 s10 s11 s12 s13 s14 s15 s16 s17 s18 s19 s20 s21 s22 : Option Sl} : cV (st (fVar 23)) (lent (s0 :: s1 :: s2 :: s3 :: s4 :: s5 :: s6 :: s7 :: s8 :: s9 :: s10 :: s11 :: s12 :: s13 :: s14 :: s15 :: s16 :: s17 :: s18 :: s19 :: s20 :: s21 :: s22 :: some (.sh n d) :: r)) h kV = kV (lent (s0 :: s1 :: s2 :: s3 :: s4 :: s5 :: s6 :: s7 :: s8 :: s9 :: s10 :: s11 :: s12 :: s13 :: s14 :: s15 :: s16 :: s17 :: s18 :: s19 :: s20 :: s21 :: s22 :: some (.sh n d) :: r)) n d := id rfl
@[simp ↓] theorem kOl_23 {s0 s1 s2 s3 s4 s5 s6 s7 s8 s9 s10 s11 s12 s13 s14 s15 s16 s17 s18 s19 s20 s21 s22 : Option Sl} : cV (st (fVar 23)) (lent (s0 :: s1 :: s2 :: s3 :: s4 :: s5 :: s6 :: s7 :: s8 :: s9 :: s10 :: s11 :: s12 :: s13 :: s14 :: s15 :: s16 :: s17 :: s18 :: s19 :: s20 :: s21 :: s22 :: some (.ow n ds) :: r)) h kV = kV (lent (s0 :: s1 :: s2 :: s3 :: s4 :: s5 :: s6 :: s7 :: s8 :: s9 :: s10 :: s11 :: s12 :: s13 :: s14 :: s15 :: s16 :: s17 :: s18 :: s19 :: s20 :: s21 :: s22 :: some (.sh n (.list ds)) :: r)) n (.list ds) := id rfl
@[simp ↓] theorem p_23 {s0 s1 s2 s3 s4 s5 s6 s7 s8 s9 s10 s11 s12 s13 s14 s15 s16 s17 s18 s19 s20 s21 s22 : Option Sl} : cP 23 (s0 :: s1 :: s2 :: s3 :: s4 :: s5 :: s6 :: s7 :: s8 :: s9 :: s10 :: s11 :: s12 :: s13 :: s14 :: s15 :: s16 :: s17 :: s18 :: s19 :: s20 :: s21 :: s22 :: x :: r) y kP = kP (s0 :: s1 :: s2 :: s3 :: s4 :: s5 :: s6 :: s7 :: s8 :: s9 :: s10 :: s11 :: s12 :: s13 :: s14 :: s15 :: s16 :: s17 :: s18 :: s19 :: s20 :: s21 :: s22 :: y :: r) := id rfl
@[simp ↓] theorem rO_23 {s0 s1 s2 s3 s4 s5 s6 s7 s8 s9 s10 s11 s12 s13 s14 s15 s16 s17 s18 s19 s20 s21 s22 : Option Sl} : reK (s0 :: s1 :: s2 :: s3 :: s4 :: s5 :: s6 :: s7 :: s8 :: s9 :: s10 :: s11 :: s12 :: s13 :: s14 :: s15 :: s16 :: s17 :: s18 :: s19 :: s20 :: s21 :: s22 :: some (.ow n ds) :: r) (.own 23) h kO = kO (.rt (.nw n ds)) := id rfl
@[simp ↓] theorem iO_23 {s0 s1 s2 s3 s4 s5 s6 s7 s8 s9 s10 s11 s12 s13 s14 s15 s16 s17 s18 s19 s20 s21 s22 : Option Sl} {z : Rs β} : grd (isOw (gt (s0 :: s1 :: s2 :: s3 :: s4 :: s5 :: s6 :: s7 :: s8 :: s9 :: s10 :: s11 :: s12 :: s13 :: s14 :: s15 :: s16 :: s17 :: s18 :: s19 :: s20 :: s21 :: s22 :: some (.ow n ds) :: r) 23)) z = z := id rfl
@[simp ↓] theorem rdO_23 {s0 s1 s2 s3 s4 s5 s6 s7 s8 s9 s10 s11 s12 s13 s14 s15 s16 s17 s18 s19 s20 s21 s22 : Option Sl} : rdK (s0 :: s1 :: s2 :: s3 :: s4 :: s5 :: s6 :: s7 :: s8 :: s9 :: s10 :: s11 :: s12 :: s13 :: s14 :: s15 :: s16 :: s17 :: s18 :: s19 :: s20 :: s21 :: s22 :: some (.ow n ds) :: r) (.own 23) h kV = kV (s0 :: s1 :: s2 :: s3 :: s4 :: s5 :: s6 :: s7 :: s8 :: s9 :: s10 :: s11 :: s12 :: s13 :: s14 :: s15 :: s16 :: s17 :: s18 :: s19 :: s20 :: s21 :: s22 :: some (.ow n ds) :: r) n (.list ds) := id rfl
@[simp ↓] theorem stO_23 {s0 s1 s2 s3 s4 s5 s6 s7 s8 s9 s10 s11 s12 s13 s14 s15 s16 s17 s18 s19 s20 s21 s22 : Option Sl} : stK (s0 :: s1 :: s2 :: s3 :: s4 :: s5 :: s6 :: s7 :: s8 :: s9 :: s10 :: s11 :: s12 :: s13 :: s14 :: s15 :: s16 :: s17 :: s18 :: s19 :: s20 :: s21 :: s22 :: some (.ow n ds) :: r) (.own 23) h kV = kV (s0 :: s1 :: s2 :: s3 :: s4 :: s5 :: s6 :: s7 :: s8 :: s9 :: s10 :: s11 :: s12 :: s13 :: s14 :: s15 :: s16 :: s17 :: s18 :: s19 :: s20 :: s21 :: s22 :: some (.sh n (.list ds)) :: r) n (.list ds) := id rfl
@[simp ↓] theorem pO_23 {s0 s1 s2 s3 s4 s5 s6 s7 s8 s9 s10 s11 s12 s13 s14 s15 s16 s17 s18 s19 s20 s21 s22 : Option Sl} {i : Nat} : puK i (s0 :: s1 :: s2 :: s3 :: s4 :: s5 :: s6 :: s7 :: s8 :: s9 :: s10 :: s11 :: s12 :: s13 :: s14 :: s15 :: s16 :: s17 :: s18 :: s19 :: s20 :: s21 :: s22 :: some (.ow n ds) :: r) (.own 23) h kP = cP i (s0 :: s1 :: s2 :: s3 :: s4 :: s5 :: s6 :: s7 :: s8 :: s9 :: s10 :: s11 :: s12 :: s13 :: s14 :: s15 :: s16 :: s17 :: s18 :: s19 :: s20 :: s21 :: s22 :: some (.sh n (.list ds)) :: r) (some (.sh n (.list ds))) kP := id rfl
@[simp ↓ low] theorem aO_23 {s0 s1 s2 s3 s4 s5 s6 s7 s8 s9 s10 s11 s12 s13 s14 s15 s16 s17 s18 s19 s20 s21 s22 : Option Sl} : apK 23 (s0 :: s1 :: s2 :: s3 :: s4 :: s5 :: s6 :: s7 :: s8 :: s9 :: s10 :: s11 :: s12 :: s13 :: s14 :: s15 :: s16 :: s17 :: s18 :: s19 :: s20 :: s21 :: s22 :: some (.ow n ds) :: r) m d h kO = grd (decide (ds.length < 1000000)) (kO (.nx (s0 :: s1 :: s2 :: s3 :: s4 :: s5 :: s6 :: s7 :: s8 :: s9 :: s10 :: s11 :: s12 :: s13 :: s14 :: s15 :: s16 :: s17 :: s18 :: s19 :: s20 :: s21 :: s22 :: some (.ow (n && m) (ds ++ [d])) :: r))) := by
  exact on_grd _ _ _ _
@[simp ↓ low] theorem sO_23 {s0 s1 s2 s3 s4 s5 s6 s7 s8 s9 s10 s11 s12 s13 s14 s15 s16 s17 s18 s19 s20 s21 s22 : Option Sl} (z : 0 ≤ j ∧ j < ds.length) : siK 23 (s0 :: s1 :: s2 :: s3 :: s4 :: s5 :: s6 :: s7 :: s8 :: s9 :: s10 :: s11 :: s12 :: s13 :: s14 :: s15 :: s16 :: s17 :: s18 :: s19 :: s20 :: s21 :: s22 :: some (.ow n ds) :: r) m d (.int j) h kO = kO (.nx (s0 :: s1 :: s2 :: s3 :: s4 :: s5 :: s6 :: s7 :: s8 :: s9 :: s10 :: s11 :: s12 :: s13 :: s14 :: s15 :: s16 :: s17 :: s18 :: s19 :: s20 :: s21 :: s22 :: some (.ow (n && m) (ds.set j.toNat d)) :: r)) := by
  unfold siK; rw [show gt (s0 :: s1 :: s2 :: s3 :: s4 :: s5 :: s6 :: s7 :: s8 :: s9 :: s10 :: s11 :: s12 :: s13 :: s14 :: s15 :: s16 :: s17 :: s18 :: s19 :: s20 :: s21 :: s22 :: some (.ow n ds) :: r) 23 = some (.ow n ds) from rfl, setS_ow, ixN_in z]; rfl
@[simp ↓] theorem aOm_23 {s0 s1 s2 s3 s4 s5 s6 s7 s8 s9 s10 s11 s12 s13 s14 s15 s16 s17 s18 s19 s20 s21 s22 : Option Sl} : apK 23 (s0 :: s1 :: s2 :: s3 :: s4 :: s5 :: s6 :: s7 :: s8 :: s9 :: s10 :: s11 :: s12 :: s13 :: s14 :: s15 :: s16 :: s17 :: s18 :: s19 :: s20 :: s21 :: s22 :: some (.ow n (xs.map c)) :: r) m (c z) h kO = grd (decide (xs.length < 1000000)) (kO (.nx (s0 :: s1 :: s2 :: s3 :: s4 :: s5 :: s6 :: s7 :: s8 :: s9 :: s10 :: s11 :: s12 :: s13 :: s14 :: s15 :: s16 :: s17 :: s18 :: s19 :: s20 :: s21 :: s22 :: some (.ow (n && m) ((xs ++ [z]).map c)) :: r))) := by
  rw [aO_23, List.length_map, map_snoc]
@[simp ↓] theorem sOm_23 {s0 s1 s2 s3 s4 s5 s6 s7 s8 s9 s10 s11 s12 s13 s14 s15 s16 s17 s18 s19 s20 s21 s22 : Option Sl} (q : 0 ≤ j ∧ j < xs.length) : siK 23 (s0 :: s1 :: s2 :: s3 :: s4 :: s5 :: s6 :: s7 :: s8 :: s9 :: s10 :: s11 :: s12 :: s13 :: s14 :: s15 :: s16 :: s17 :: s18 :: s19 :: s20 :: s21 :: s22 :: some (.ow n (xs.map c)) :: r) m (c z) (.int j) h kO = kO (.nx (s0 :: s1 :: s2 :: s3 :: s4 :: s5 :: s6 :: s7 :: s8 :: s9 :: s10 :: s11 :: s12 :: s13 :: s14 :: s15 :: s16 :: s17 :: s18 :: s19 :: s20 :: s21 :: s22 :: some (.ow (n && m) ((ist xs j z).map c)) :: r)) := by
  rw [sO_23 (by rw [List.length_map]; exact q), map_set]; rfl
@[simp ↓] theorem eS_24 {s0 s1 s2 s3 s4 s5 s6 s7 s8 s9 s10 s11 s12 s13 s14 s15 s16 s17 s18 s19 s20 s21 s22 s23 : Option Sl} : cE (fVar 24) (s0 :: s1 :: s2 :: s3 :: s4 :: s5 :: s6 :: s7 :: s8 :: s9 :: s10 :: s11 :: s12 :: s13 :: s14 :: s15 :: s16 :: s17 :: s18 :: s19 :: s20 :: s21 :: s22 :: s23 :: some (.sh n d) :: r) h kE = kE (s0 :: s1 :: s2 :: s3 :: s4 :: s5 :: s6 :: s7 :: s8 :: s9 :: s10 :: s11 :: s12 :: s13 :: s14 :: s15 :: s16 :: s17 :: s18 :: s19 :: s20 :: s21 :: s22 :: s23 :: some (.sh n d) :: r) (.sh n d) := id rfl
@[simp ↓] theorem eO_24 {s0 s1 s2 s3 s4 s5 s6 s7 s8 s9 s10 s11 s12 s13 s14 s15 s16 s17 s18 s19 s20 s21 s22 s23 : Option Sl} : cE (fVar 24) (s0 :: s1 :: s2 :: s3 :: s4 :: s5 :: s6 :: s7 :: s8 :: s9 :: s10 :: s11 :: s12 :: s13 :: s14 :: s15 :: s16 :: s17 :: s18 :: s19 :: s20 :: s21 :: s22 :: s23 :: some (.ow n ds) :: r) h kE = kE (s0 :: s1 :: s2 :: s3 :: s4 :: s5 :: s6 :: s7 :: s8 :: s9 :: s10 :: s11 :: s12 :: s13 :: s14 :: s15 :: s16 :: s17 :: s18 :: s19 :: s20 :: s21 :: s22 :: s23 :: some (.ow n ds) :: r) (.own 24) := id rfl
@[simp ↓] theorem eSl_24 {s0 s1 s2 s3 s4 s5 s6 s7 s8 s9 s10 s11 s12 s13 s14 s15 s16 s17 s18 s19 s20 s21 s22 s23 : Option Sl} : cE (fVar 24) (lent (s0 :: s1 :: s2 :: s3 :: s4 :: s5 :: s6 :: s7 :: s8 :: s9 :: s10 :: s11 :: s12 :: s13 :: s14 :: s15 :: s16 :: s17 :: s18 :: s19 :: s20 :: s21 :: s22 :: s23 :: some (.sh n d) :: r)) h kE = kE (lent (s0 :: s1 :: s2 :: s3 :: s4 :: s5 :: s6 :: s7 :: s8 :: s9 :: s10 :: s11 :: s12 :: s13 :: s14 :: s15 :: s16 :: s17 :: s18 :: s19 :: s20 :: s21 :: s22 :: s23 :: some (.sh n d) :: r)) (.sh n d) := id rfl
@[simp ↓] theorem eOl_24 {s0 s1 s2 s3 s4 s5 s6 s7 s8 s9 s10 s11 s12 s13 s14 s15 s16 s17 s18 s19 s20 s21 s22 s23 : Option Sl} : cE (fVar 24) (lent (s0 :: s1 :: s2 :: s3 :: s4 :: s5 :: s6 :: s7 :: s8 :: s9 :: s10 :: s11 :: s12 :: s13 :: s14 :: s15 :: s16 :: s17 :: s18 :: s19 :: s20 :: s21 :: s22 :: s23 :: some (.ow n ds) :: r)) h kE = kE (lent (s0 :: s1 :: s2 :: s3 :: s4 :: s5 :: s6 :: s7 :: s8 :: s9 :: s10 :: s11 :: s12 :: s13 :: s14 :: s15 :: s16 :: s17 :: s18 :: s19 :: s20 :: s21 :: s22 :: s23 :: some (.ow n ds) :: r)) (.sh n (.list ds)) := id rfl
@[simp ↓] theorem vS_24 {s0 s1 s2 s3 s4 s5 s6 s7 s8 s9 s10 s11 s12 s13 s14 s15 s16 s17 s18 s19 s20 s21 s22 s23 : Option Sl} : cV (rd (fVar 24)) (s0 :: s1 :: s2 :: s3 :: s4 :: s5 :: s6 :: s7 :: s8 :: s9 :: s10 :: s11 :: s12 :: s13 :: s14 :: s15 :: s16 :: s17 :: s18 :: s19 :: s20 :: s21 :: s22 :: s23 :: some (.sh n d) :: r) h kV = kV (s0 :: s1 :: s2 :: s3 :: s4 :: s5 :: s6 :: s7 :: s8 :: s9 :: s10 :: s11 :: s12 :: s13 :: s14 :: s15 :: s16 :: s17 :: s18 :: s19 :: s20 :: s21 :: s22 :: s23 :: some (.sh n d) :: r) n d := id rfl
@[simp ↓] theorem vO_24 {s0 s1 s2 s3 s4 s5 s6 s7 s8 s9 s10 s11 s12 s13 s14 s15 s16 s17 s18 s19 s20 s21 s22 s23 : Option Sl} : cV (rd (fVar 24)) (s0 :: s1 :: s2 :: s3 :: s4 :: s5 :: s6 :: s7 :: s8 :: s9 :: s10 :: s11 :: s12 :: s13 :: s14 :: s15 :: s16 :: s17 :: s18 :: s19 :: s20 :: s21 :: s22 :: s23 :: some (.ow n ds) :: r) h kV = kV (s0 :: s1 :: s2 :: s3 :: s4 :: s5 :: s6 :: s7 :: s8 :: s9 :: s10 :: s11 :: s12 :: s13 :: s14 :: s15 :: s16 :: s17 :: s18 :: s19 :: s20 :: s21 :: s22 :: s23 :: some (.ow n ds) :: r) n (.list ds) := id rfl
@[simp ↓] theorem vSl_24 {s0 s1 s2 s3 s4 s5 s6 s7 s8 s9 s10 s11 s12 s13 s14 s15 s16 s17 s18 s19 s20 s21 s22 s23 : Option Sl} : cV (rd (fVar 24)) (lent (s0 :: s1 :: s2 :: s3 :: s4 :: s5 :: s6 :: s7 :: s8 :: s9 :: s10 :: s11 :: s12 :: s13 :: s14 :: s15 :: s16 :: s17 :: s18 :: s19 :: s20 :: s21 :: s22 :: s23 :: some (.sh n d) :: r)) h kV = kV (lent (s0 :: s1 :: s2 :: s3 :: s4 :: s5 :: s6 :: s7 :: s8 :: s9 :: s10 :: s11 :: s12 :: s13 :: s14 :: s15 :: s16 :: s17 :: s18 :: s19 :: s20 :: s21 :: s22 :: s23 :: some (.sh n d) :: r)) n d := id rfl
@[simp ↓] theorem vOl_24 {s0 s1 s2 s3 s4 s5 s6 s7 s8 s9 s10 s11 s12 s13 s14 s15 s16 s17 s18 s19 s20 s21 s22 s23 : Option Sl} : cV (rd (fVar 24)) (lent (s0 :: s1 :: s2 :: s3 :: s4 :: s5 :: s6 :: s7 :: s8 :: s9 :: s10 :: s11 :: s12 :: s13 :: s14 :: s15 :: s16 :: s17 :: s18 :: s19 :: s20 :: s21 :: s22 :: s23 :: some (.ow n ds) :: r)) h kV = kV (lent (s0 :: s1 :: s2 :: s3 :: s4 :: s5 :: s6 :: s7 :: s8 :: s9 :: s10 :: s11 :: s12 :: s13 :: s14 :: s15 :: s16 :: s17 :: s18 :: s19 :: s20 :: s21 :: s22 :: s23 :: some (.ow n ds) :: r)) n (.list ds) := id rfl
@[simp ↓] theorem kS_24 {s0 s1 s2 s3 s4 s5 s6 s7 s8 s9 s10 s11 s12 s13 s14 s15 s16 s17 s18 s19 s20 s21 s22 s23 : Option Sl} : cV (st (fVar 24)) (s0 :: s1 :: s2 :: s3 :: s4 :: s5 :: s6 :: s7 :: s8 :: s9 :: s10 :: s11 :: s12 :: s13 :: s14 :: s15 :: s16 :: s17 :: s18 :: s19 :: s20 :: s21 :: s22 :: s23 :: some (.sh n d) :: r) h kV = kV (s0 :: s1 :: s2 :: s3 :: s4 :: s5 :: s6 :: s7 :: s8 :: s9 :: s10 :: s11 :: s12 :: s13 :: s14 :: s15 :: s16 :: s17 :: s18 :: s19 :: s20 :: s21 :: s22 :: s23 :: some (.sh n d) :: r) n d := id rfl
@[simp ↓] theorem kO_24 {s0 s1 s2 s3 s4 s5 s6 s7 s8 s9 s10 s11 s12 s13 s14 s15 s16 s17 s18 s19 s20 s21 s22 s23 : Option Sl} : cV (st (fVar 24)) (s0 :: s1 :: s2 :: s3 :: s4 :: s5 :: s6 :: s7 :: s8 :: s9 :: s10 :: s11 :: s12 :: s13 :: s14 :: s15 :: s16 :: s17 :: s18 :: s19 :: s20 :: s21 :: s22 :: s23 :: some (.ow n ds) :: r) h kV = kV (s0 :: s1 :: s2 :: s3 :: s4 :: s5 :: s6 :: s7 :: s8 :: s9 :: s10 :: s11 :: s12 :: s13 :: s14 :: s15 :: s16 :: s17 :: s18 :: s19 :: s20 :: s21 :: s22 :: s23 :: some (.sh n (.list ds)) :: r) n (.list ds) := id rfl
@[simp ↓] theorem kSl_24 {s0 s1 s2 s3 s4 s5 s6 s7 s8 s9 s10 s11 s12 s13 s14 s15 s16 s17 s18 s19 s20 s21 s22 s23 : Option Sl} : cV (st (fVar 24)) (lent (s0 :: s1 :: s2 :: s3 :: s4 :: s5 :: s6 :: s7 :: s8 :: s9 :: s10 :: s11 :: s12 :: s13 :: s14 :: s15 :: s16 :: s17 :: s18 :: s19 :: s20 :: s21 :: s22 :: s23 :: some (.sh n d) :: r)) h kV = kV (lent (s0 :: s1 :: s2 :: s3 :: s4 :: s5 :: s6 :: s7 :: s8 :: s9 :: s10 :: s11 :: s12 :: s13 :: s14 :: s15 :: s16 :: s17 :: s18 :: s19 :: s20 :: s21 :: s22 :: s23 :: some (.sh n d) :: r)) n d := id rfl
@[simp ↓] theorem kOl_24 {s0 s1 s2 s3 s4 s5 s6 s7 s8 s9 s10 s11 s12 s13 s14 s15 s16 s17 s18 s19 s20 s21 s22 s23 : Option Sl} : cV (st (fVar 24)) (lent (s0 :: s1 :: s2 :: s3 :: s4 :: s5 :: s6 :: s7 :: s8 :: s9 :: s10 :: s11 :: s12 :: s13 :: s14 :: s15 :: s16 :: s17 :: s18 :: s19 :: s20 :: s21 :: s22 :: s23 :: some (.ow n ds) :: r)) h kV = kV (lent (s0 :: s1 :: s2 :: s3 :: s4 :: s5 :: s6 :: s7 :: s8 :: s9 :: s10 :: s11 :: s12 :: s13 :: s14 :: s15 :: s16 :: s17 :: s18 :: s19 :: s20 :: s21 :: s22 :: s23 :: some (.sh n (.list ds)) :: r)) n (.list ds) := id rfl
@[simp ↓] theorem p_24 {s0 s1 s2 s3 s4 s5 s6 s7 s8 s9 s10 s11 s12 s13 s14 s15 s16 s17 s18 s19 s20 s21 s22 s23 : Option Sl} : cP 24 (s0 :: s1 :: s2 :: s3 :: s4 :: s5 :: s6 :: s7 :: s8 :: s9 :: s10 :: s11 :: s12 :: s13 :: s14 :: s15 :: s16 :: s17 :: s18 :: s19 :: s20 :: s21 :: s22 :: s23 :: x :: r) y kP = kP (s0 :: s1 :: s2 :: s3 :: s4 :: s5 :: s6 :: s7 :: s8 :: s9 :: s10 :: s11 :: s12 :: s13 :: s14 :: s15 :: s16 :: s17 :: s18 :: s19 :: s20 :: s21 :: s22 :: s23 :: y :: r) := id rfl
@[simp ↓] theorem rO_24 {s0 s1 s2 s3 s4 s5 s6 s7 s8 s9 s10 s11 s12 s13 s14 s15 s16 s17 s18 s19 s20 s21 s22 s23 : Option Sl} : reK (s0 :: s1 :: s2 :: s3 :: s4 :: s5 :: s6 :: s7 :: s8 :: s9 :: s10 :: s11 :: s12 :: s13 :: s14 :: s15 :: s16 :: s17 :: s18 :: s19 :: s20 :: s21 :: s22 :: s23 :: some (.ow n ds) :: r) (.own 24) h kO = kO (.rt (.nw n ds)) := id rfl
@[simp ↓] theorem iO_24 {s0 s1 s2 s3 s4 s5 s6 s7 s8 s9 s10 s11 s12 s13 s14 s15 s16 s17 s18 s19 s20 s21 s22 s23 : Option Sl} {z : Rs β} : grd (isOw (gt (s0 :: s1 :: s2 :: s3 :: s4 :: s5 :: s6 :: s7 :: s8 :: s9 :: s10 :: s11 :: s12 :: s13 :: s14 :: s15 :: s16 :: s17 :: s18 :: s19 :: s20 :: s21 :: s22 :: s23 :: some (.ow n ds) :: r) 24)) z = z := id rfl
@[simp ↓] theorem rdO_24 {s0 s1 s2 s3 s4 s5 s6 s7 s8 s9 s10 s11 s12 s13 s14 s15 s16 s17 s18 s19 s20 s21 s22 s23 : Option Sl} : rdK (s0 :: s1 :: s2 :: s3 :: s4 :: s5 :: s6 :: s7 :: s8 :: s9 :: s10 :: s11 :: s12 :: s13 :: s14 :: s15 :: s16 :: s17 :: s18 :: s19 :: s20 :: s21 :: s22 :: s23 :: some (.ow n ds) :: r) (.own 24) h kV = kV (s0 :: s1 :: s2 :: s3 :: s4 :: s5 :: s6 :: s7 :: s8 :: s9 :: s10 :: s11 :: s12 :: s13 :: s14 :: s15 :: s16 :: s17 :: s18 :: s19 :: s20 :: s21 :: s22 :: s23 :: some (.ow n ds) :: r) n (.list ds) := id rfl
@[simp ↓] theorem stO_24 {s0 s1 s2 s3 s4 s5 s6 s7 s8 s9 s10 s11 s12 s13 s14 s15 s16 s17 s18 s19 s20 s21 s22 s23 : Option Sl} : stK (s0 :: s1 :: s2 :: s3 :: s4 :: s5 :: s6 :: s7 :: s8 :: s9 :: s10 :: s11 :: s12 :: s13 :: s14 :: s15 :: s16 :: s17 :: s18 :: s19 :: s20 :: s21 :: s22 :: s23 :: some (.ow n ds) :: r) (.own 24) h kV = kV (s0 :: s1 :: s2 :: s3 :: s4 :: s5 :: s6 :: s7 :: s8 :: s9 :: s10 :: s11 :: s12 :: s13 :: s14 :: s15 :: s16 :: s17 :: s18 :: s19 :: s20 :: s21 :: s22 :: s23 :: some (.sh n (.list ds)) :: r) n (.list ds) := id rfl
@[simp ↓] theorem pO_24 {s0 s1 s2 s3 s4 s5 s6 s7 s8 s9 s10 s11 s12 s13 s14 s15 s16 s17 s18 s19 s20 s21 s22 s23 : Option Sl} {i : Nat} : puK i (s0 :: s1 :: s2 :: s3 :: s4 :: s5 :: s6 :: s7 :: s8 :: s9 :: s10 :: s11 :: s12 :: s13 :: s14 :: s15 :: s16 :: s17 :: s18 :: s19 :: s20 :: s21 :: s22 :: s23 :: some (.ow n ds) :: r) (.own 24) h kP = cP i (s0 :: s1 :: s2 :: s3 :: s4 :: s5 :: s6 :: s7 :: s8 :: s9 :: s10 :: s11 :: s12 :: s13 :: s14 :: s15 :: s16 :: s17 :: s18 :: s19 :: s20 :: s21 :: s22 :: s23 :: some (.sh n (.list ds)) :: r) (some (.sh n (.list ds))) kP := id rfl
@[simp ↓ low] theorem aO_24 {s0 s1 s2 s3 s4 s5 s6 s7 s8 s9 s10 s11 s12 s13 s14 s15 s16 s17 s18 s19 s20 s21 s22 s23 : Option Sl} : apK 24 (s0 :: s1 :: s2 :: s3 :: s4 :: s5 :: s6 :: s7 :: s8 :: s9 :: s10 :: s11 :: s12 :: s13 :: s14 :: s15 :: s16 :: s17 :: s18 :: s19 :: s20 :: s21 :: s22 :: s23 :: some (.ow n ds) :: r) m d h kO = grd (decide (ds.length < 1000000)) (kO (.nx (s0 :: s1 :: s2 :: s3 :: s4 :: s5 :: s6 :: s7 :: s8 :: s9 :: s10 :: s11 :: s12 :: s13 :: s14 :: s15 :: s16 :: s17 :: s18 :: s19 :: s20 :: s21 :: s22 :: s23 :: some (.ow (n && m) (ds ++ [d])) :: r))) := by
  exact on_grd _ _ _ _
@[simp ↓ low] theorem sO_24 {s0 s1 s2 s3 s4 s5 s6 s7 s8 s9 s10 s11 s12 s13 s14 s15 s16 s17 s18 s19 s20 s21 s22 s23 : Option Sl} (z : 0 ≤ j ∧ j < ds.length) : siK 24 (s0 :: s1 :: s2 :: s3 :: s4 :: s5 :: s6 :: s7 :: s8 :: s9 :: s10 :: s11 :: s12 :: s13 :: s14 :: s15 :: s16 :: s17 :: s18 :: s19 :: s20 :: s21 :: s22 :: s23 :: some (.ow n ds) :: r) m d (.int j) h kO = kO (.nx (s0 :: s1 :: s2 :: s3 :: s4 :: s5 :: s6 :: s7 :: s8 :: s9 :: s10 :: s11 :: s12 :: s13 :: s14 :: s15 :: s16 :: s17 :: s18 :: s19 :: s20 :: s21 :: s22 :: s23 :: some (.ow (n && m) (ds.set j.toNat d)) :: r)) := by
  unfold siK; rw [show gt (s0 :: s1 :: s2 :: s3 :: s4 :: s5 :: s6 :: s7 :: s8 :: s9 :: s10 :: s11 :: s12 :: s13 :: s14 :: s15 :: s16 :: s17 :: s18 :: s19 :: s20 :: s21 :: s22 :: s23 :: some (.ow n ds) :: r) 24 = some (.ow n ds) from rfl, setS_ow, ixN_in z]; rfl
@[simp ↓] theorem aOm_24 {s0 s1 s2 s3 s4 s5 s6 s7 s8 s9 s10 s11 s12 s13 s14 s15 s16 s17 s18 s19 s20 s21 s22 s23 : Option Sl} : apK 24 (s0 :: s1 :: s2 :: s3 :: s4 :: s5 :: s6 :: s7 :: s8 :: s9 :: s10 :: s11 :: s12 :: s13 :: s14 :: s15 :: s16 :: s17 :: s18 :: s19 :: s20 :: s21 :: s22 :: s23 :: some (.ow n (xs.map c)) :: r) m (c z) h kO = grd (decide (xs.length < 1000000)) (kO (.nx (s0 :: s1 :: s2 :: s3 :: s4 :: s5 :: s6 :: s7 :: s8 :: s9 :: s10 :: s11 :: s12 :: s13 :: s14 :: s15 :: s16 :: s17 :: s18 :: s19 :: s20 :: s21 :: s22 :: s23 :: some (.ow (n && m) ((xs ++ [z]).map c)) :: r))) := by
  rw [aO_24, List.length_map, map_snoc]
@[simp ↓] theorem sOm_24 {s0 s1 s2 s3 s4 s5 s6 s7 s8 s9 s10 s11 s12 s13 s14 s15 s16 s17 s18 s19 s20 s21 s22 s23 : Option Sl} (q : 0 ≤ j ∧ j < xs.length) : siK 24 (s0 :: s1 :: s2 :: s3 :: s4 :: s5 :: s6 :: s7 :: s8 :: s9 :: s10 :: s11 :: s12 :: s13 :: s14 :: s15 :: s16 :: s17 :: s18 :: s19 :: s20 :: s21 :: s22 :: s23 :: some (.ow n (xs.map c)) :: r) m (c z) (.int j) h kO = kO (.nx (s0 :: s1 :: s2 :: s3 :: s4 :: s5 :: s6 :: s7 :: s8 :: s9 :: s10 :: s11 :: s12 :: s13 :: s14 :: s15 :: s16 :: s17 :: s18 :: s19 :: s20 :: s21 :: s22 :: s23 :: some (.ow (n && m) ((ist xs j z).map c)) :: r)) := by
  rw [sO_24 (by rw [List.length_map]; exact q), map_set]; rfl
@[simp ↓] theorem eS_25 {s0 s1 s2 s3 s4 s5 s6 s7 s8 s9 s10 s11 s12 s13 s14 s15 s16 s17 s18 s19 s20 s21 s22 s23 s24 : Option Sl} : cE (fVar 25) (s0 :: s1 :: s2 :: s3 :: s4 :: s5 :: s6 :: s7 :: s8 :: s9 :: s10 :: s11 :: s12 :: s13 :: s14 :: s15 :: s16 :: s17 :: s18 :: s19 :: s20 :: s21 :: s22 :: s23 :: s24 :: some (.sh n d) :: r) h kE = kE (s0 :: s1 :: s2 :: s3 :: s4 :: s5 :: s6 :: s7 :: s8 :: s9 :: s10 :: s11 :: s12 :: s13 :: s14 :: s15 :: s16 :: s17 :: s18 :: s19 :: s20 :: s21 :: s22 :: s23 :: s24 :: some (.sh n d) :: r) (.sh n d) := id rfl
@[simp ↓] theorem eO_25 {s0 s1 s2 s3 s4 s5 s6 s7 s8 s9 s10 s11 s12 s13 s14 s15 s16 s17 s18 s19 s20 s21 s22 s23 s24 : Option Sl} : cE (fVar 25) (s0 :: s1 :: s2 :: s3 :: s4 :: s5 :: s6 :: s7 :: s8 :: s9 :: s10 :: s11 :: s12 :: s13 :: s14 :: s15 :: s16 :: s17 :: s18 :: s19 :: s20 :: s21 :: s22 :: s23 :: s24 :: some (.ow n ds) :: r) h kE = kE (s0 :: s1 :: s2 :: s3 :: s4 :: s5 :: s6 :: s7 :: s8 :: s9 :: s10 :: s11 :: s12 :: s13 :: s14 :: s15 :: s16 :: s17 :: s18 :: s19 :: s20 :: s21 :: s22 :: s23 :: s24 :: some (.ow n ds) :: r) (.own 25) := id rfl
@[simp ↓] theorem eSl_25 {s0 s1 s2 s3 s4 s5 s6 s7 s8 s9 s10 s11 s12 s13 s14 s15 s16 s17 s18 s19 s20 s21 s22 s23 s24 : Option Sl} : cE (fVar 25) (lent (s0 :: s1 :: s2 :: s3 :: s4 :: s5 :: s6 :: s7 :: s8 :: s9 :: s10 :: s11 :: s12 :: s13 :: s14 :: s15 :: s16 :: s17 :: s18 :: s19 :: s20 :: s21 :: s22 :: s23 :: s24 :: some (.sh n d) :: r)) h kE = kE (lent (s0 :: s1 :: s2 :: s3 :: s4 :: s5 :: s6 :: s7 :: s8 :: s9 :: s10 :: s11 :: s12 :: s13 :: s14 :: s15 :: s16 :: s17 :: s18 :: s19 :: s20 :: s21 :: s22 :: s23 :: s24 :: some (.sh n d) :: r)) (.sh n d) := id rfl
@[simp ↓] theorem eOl_25 {s0 s1 s2 s3 s4 s5 s6 s7 s8 s9 s10 s11 s12 s13 s14 s15 s16 s17 s18 s19 s20 s21 s22 s23 s24 : Option Sl} : cE (fVar 25) (lent (s0 :: s1 :: s2 :: s3 :: s4 :: s5 :: s6 :: s7 :: s8 :: s9 :: s10 :: s11 :: s12 :: s13 :: s14 :: s15 :: s16 :: s17 :: s18 :: s19 :: s20 :: s21 :: s22 :: s23 :: s24 :: some (.ow n ds) :: r)) h kE = kE (lent (s0 :: s1 :: s2 :: s3 :: s4 :: s5 :: s6 :: s7 :: s8 :: s9 :: s10 :: s11 :: s12 :: s13 :: s14 :: s15 :: s16 :: s17 :: s18 :: s19 :: s20 :: s21 :: s22 :: s23 :: s24 :: some (.ow n ds) :: r)) (.sh n (.list ds)) := id rfl
@[simp ↓] theorem vS_25 {s0 s1 s2 s3 s4 s5 s6 s7 s8 s9 s10 s11 s12 s13 s14 s15 s16 s17 s18 s19 s20 s21 s22 s23 s24 : Option Sl} : cV (rd (fVar 25)) (s0 :: s1 :: s2 :: s3 :: s4 :: s5 :: s6 :: s7 :: s8 :: s9 :: s10 :: s11 :: s12 :: s13 :: s14 :: s15 :: s16 :: s17 :: s18 :: s19 :: s20 :: s21 :: s22 :: s23 :: s24 :: some (.sh n d) :: r) h kV = kV (s0 :: s1 :: s2 :: s3 :: s4 :: s5 :: s6 :: s7 :: s8 :: s9 :: s10 :: s11 :: s12 :: s13 :: s14 :: s15 :: s16 :: s17 :: s18 :: s19 :: s20 :: s21 :: s22 :: s23 :: s24 :: some (.sh n d) :: r) n d := id rfl
@[simp ↓] theorem vO_25 {s0 s1 s2 s3 s4 s5 s6 s7 s8 s9 s10 s11 s12 s13 s14 s15 s16 s17 s18 s19 s20 s21 s22 s23 s24 : Option Sl} : cV (rd (fVar 25)) (s0 :: s1 :: s2 :: s3 :: s4 :: s5 :: s6 :: s7 :: s8 :: s9 :: s10 :: s11 :: s12 :: s13 :: s14 :: s15 :: s16 :: s17 :: s18 :: s19 :: s20 :: s21 :: s22 :: s23 :: s24 :: some (.ow n ds) :: r) h kV = kV (s0 :: s1 :: s2 :: s3 :: s4 :: s5 :: s6 :: s7 :: s8 :: s9 :: s10 :: s11 :: s12 :: s13 :: s14 :: s15 :: s16 :: s17 :: s18 :: s19 :: s20 :: s21 :: s22 :: s23 :: s24 :: some (.ow n ds) :: r) n (.list ds) := id rfl
@[simp ↓] theorem vSl_25 {s0 s1 s2 s3 s4 s5 s6 s7 s8 s9 s10 s11 s12 s13 s14 s15 s16 s17 s18 s19 s20 s21 s22 s23 s24 : Option Sl} : cV (rd (fVar 25)) (lent (s0 :: s1 :: s2 :: s3 :: s4 :: s5 :: s6 :: s7 :: s8 :: s9 :: s10 :: s11 :: s12 :: s13 :: s14 :: s15 :: s16 :: s17 :: s18 :: s19 :: s20 :: s21 :: s22 :: s23 :: s24 :: some (.sh n d) :: r)) h kV = kV (lent (s0 :: s1 :: s2 :: s3 :: s4 :: s5 :: s6 :: s7 :: s8 :: s9 :: s10 :: s11 :: s12 :: s13 :: s14 :: s15 :: s16 :: s17 :: s18 :: s19 :: s20 :: s21 :: s22 :: s23 :: s24 :: some (.sh n d) :: r)) n d := id rfl
@[simp ↓] theorem vOl_25 {s0 s1 s2 s3 s4 s5 s6 s7 s8 s9 s10 s11 s12 s13 s14 s15 s16 s17 s18 s19 s20 s21 s22 s23 s24 : Option Sl} : cV (rd (fVar 25)) (lent (s0 :: s1 :: s2 :: s3 :: s4 :: s5 :: s6 :: s7 :: s8 :: s9 :: s10 :: s11 :: s12 :: s13 :: s14 :: s15 :: s16 :: s17 :: s18 :: s19 :: s20 :: s21 :: s22 :: s23 :: s24 :: some (.ow n ds) :: r)) h kV = kV (lent (s0 :: s1 :: s2 :: s3 :: s4 :: s5 :: s6 :: s7 :: s8 :: s9 :: s10 :: s11 :: s12 :: s13 :: s14 :: s15 :: s16 :: s17 :: s18 :: s19 :: s20 :: s21 :: s22 :: s23 :: s24 :: some (.ow n ds) :: r)) n (.list ds) := id rfl
@[simp ↓] theorem kS_25 {s0 s1 s2 s3 s4 s5 s6 s7 s8 s9 s10 s11 s12 s13 s14 s15 s16 s17 s18 s19 s20 s21 s22 s23 s24 : Option Sl} : cV (st (fVar 25)) (s0 :: s1 :: s2 :: s3 :: s4 :: s5 :: s6 :: s7 :: s8 :: s9 :: s10 :: s11 :: s12 :: s13 :: s14 :: s15 :: s16 :: s17 :: s18 :: s19 :: s20 :: s21 :: s22 :: s23 :: s24 :: some (.sh n d) :: r) h kV = kV (s0 :: s1 :: s2 :: s3 :: s4 :: s5 :: s6 :: s7 :: s8 :: s9 :: s10 :: s11 :: s12 :: s13 :: s14 :: s15 :: s16 :: s17 :: s18 :: s19 :: s20 :: s21 :: s22 :: s23 :: s24 :: some (.sh n d) :: r) n d := id rfl
@[simp ↓] theorem kO_25 {s0 s1 s2 s3 s4 s5 s6 s7 s8 s9 s10 s11 s12 s13 s14 s15 s16 s17 s18 s19 s20 s21 s22 s23 s24 : Option Sl} : cV (st (fVar 25)) (s0 :: s1 :: s2 :: s3 :: s4 :: s5 :: s6 :: s7 :: s8 :: s9 :: s10 :: s11 :: s12 :: s13 :: s14 :: s15 :: s16 :: s17 :: s18 :: s19 :: s20 :: s21 :: s22 :: s23 :: s24 :: some (.ow n ds) :: r) h kV = kV (s0 :: s1 :: s2 :: s3 :: s4 :: s5 :: s6 :: s7 :: s8 :: s9 :: s10 :: s11 :: s12 :: s13 :: s14 :: s15 :: s16 :: s17 :: s18 :: s19 :: s20 :: s21 :: s22 :: s23 :: s24 :: some (.sh n (.list ds)) :: r) n (.list ds) := id rfl
@[simp ↓] theorem kSl_25 {s0 s1 s2 s3 s4 s5 s6 s7 s8 s9 s10 s11 s12 s13 s14 s15 s16 s17 s18 s19 s20 s21 s22 s23 s24 : Option Sl} : cV (st (fVar 25)) (lent (s0 :: s1 :: s2 :: s3 :: s4 :: s5 :: s6 :: s7 :: s8 :: s9 :: s10 :: s11 :: s12 :: s13 :: s14 :: s15 :: s16 :: s17 :: s18 :: s19 :: s20 :: s21 :: s22 :: s23 :: s24 :: some (.sh n d) :: r)) h kV = kV (lent (s0 :: s1 :: s2 :: s3 :: s4 :: s5 :: s6 :: s7 :: s8 :: s9 :: s10 :: s11 :: s12 :: s13 :: s14 :: s15 :: s16 :: s17 :: s18 :: s19 :: s20 :: s21 :: s22 :: s23 :: s24 :: some (.sh n d) :: r)) n d := id rfl
@[simp ↓] theorem kOl_25 {s0 s1 s2 s3 s4 s5 s6 s7 s8 s9 s10 s11 s12 s13 s14 s15 s16 s17 s18 s19 s20 s21 s22 s23 s24 : Option Sl} : cV (st (fVar 25)) (lent (s0 :: s1 :: s2 :: s3 :: s4 :: s5 :: s6 :: s7 :: s8 :: s9 :: s10 :: s11 :: s12 :: s13 :: s14 :: s15 :: s16 :: s17 :: s18 :: s19 :: s20 :: s21 :: s22 :: s23 :: s24 :: some (.ow n ds) :: r)) h kV = kV (lent (s0 :: s1 :: s2 :: s3 :: s4 :: s5 :: s6 :: s7 :: s8 :: s9 :: s10 :: s11 :: s12 :: s13 :: s14 :: s15 :: s16 :: s17 :: s18 :: s19 :: s20 :: s21 :: s22 :: s23 :: s24 :: some (.sh n (.list ds)) :: r)) n (.list ds) := id rfl
@[simp ↓] theorem p_25 {s0 s1 s2 s3 s4 s5 s6 s7 s8 s9 s10 s11 s12 s13 s14 s15 s16 s17 s18 s19 s20 s21 s22 s23 s24 : Option Sl} : cP 25 (s0 :: s1 :: s2 :: s3 :: s4 :: s5 :: s6 :: s7 :: s8 :: s9 :: s10 :: s11 :: s12 :: s13 :: s14 :: s15 :: s16 :: s17 :: s18 :: s19 :: s20 :: s21 :: s22 :: s23 :: s24 :: x :: r) y kP = kP (s0 :: s1 :: s2 :: s3 :: s4 :: s5 :: s6 :: s7 :: s8 :: s9 :: s10 :: s11 :: s12 :: s13 :: s14 :: s15 :: s16 :: s17 :: s18 :: s19 :: s20 :: s21 :: s22 :: s23 :: s24 :: y :: r) := id rfl
@[simp ↓] theorem rO_25 {s0 s1 s2 s3 s4 s5 s6 s7 s8 s9 s10 s11 s12 s13 s14 s15 s16 s17 s18 s19 s20 s21 s22 s23 s24 : Option Sl} : reK (s0 :: s1 :: s2 :: s3 :: s4 :: s5 :: s6 :: s7 :: s8 :: s9 :: s10 :: s11 :: s12 :: s13 :: s14 :: s15 :: s16 :: s17 :: s18 :: s19 :: s20 :: s21 :: s22 :: s23 :: s24 :: some (.ow n ds) :: r) (.own 25) h kO = kO (.rt (.nw n ds)) := id rfl
@[simp ↓] theorem iO_25 {s0 s1 s2 s3 s4 s5 s6 s7 s8 s9 s10 s11 s12 s13 s14 s15 s16 s17 s18 s19 s20 s21 s22 s23 s24 : Option Sl} {z : Rs β} : grd (isOw (gt (s0 :: s1 :: s2 :: s3 :: s4 :: s5 :: s6 :: s7 :: s8 :: s9 :: s10 :: s11 :: s12 :: s13 :: s14 :: s15 :: s16 :: s17 :: s18 :: s19 :: s20 :: s21 :: s22 :: s23 :: s24 :: some (.ow n ds) :: r) 25)) z = z := id rfl
@[simp ↓] theorem rdO_25 {s0 s1 s2 s3 s4 s5 s6 s7 s8 s9 s10 s11 s12 s13 s14 s15 s16 s17 s18 s19 s20 s21 s22 s23 s24 : Option Sl} : rdK (s0 :: s1 :: s2 :: s3 :: s4 :: s5 :: s6 :: s7 :: s8 :: s9 :: s10 :: s11 :: s12 :: s13 :: s14 :: s15 :: s16 :: s17 :: s18 :: s19 :: s20 :: s21 :: s22 :: s23 :: s24 :: some (.ow n ds) :: r) (.own 25) h kV = kV (s0 :: s1 :: s2 :: s3 :: s4 :: s5 :: s6 :: s7 :: s8 :: s9 :: s10 :: s11 :: s12 :: s13 :: s14 :: s15 :: s16 :: s17 :: s18 :: s19 :: s20 :: s21 :: s22 :: s23 :: s24 :: some (.ow n ds) :: r) n (.list ds) := id rfl
@[simp ↓] theorem stO_25 {s0 s1 s2 s3 s4 s5 s6 s7 s8 s9 s10 s11 s12 s13 s14 s15 s16 s17 s18 s19 s20 s21 s22 s23 s24 : Option Sl} : stK (s0 :: s1 :: s2 :: s3 :: s4 :: s5 :: s6 :: s7 :: s8 :: s9 :: s10 :: s11 :: s12 :: s13 :: s14 :: s15 :: s16 :: s17 :: s18 :: s19 :: s20 :: s21 :: s22 :: s23 :: s24 :: some (.ow n ds) :: r) (.own 25) h kV = kV (s0 :: s1 :: s2 :: s3 :: s4 :: s5 :: s6 :: s7 :: s8 :: s9 :: s10 :: s11 :: s12 :: s13 :: s14 :: s15 :: s16 :: s17 :: s18 :: s19 :: s20 :: s21 :: s22 :: s23 :: s24 :: some (.sh n (.list ds)) :: r) n (.list ds) := id rfl
@[simp ↓] theorem pO_25 {s0 s1 s2 s3 s4 s5 s6 s7 s8 s9 s10 s11 s12 s13 s14 s15 s16 s17 s18 s19 s20 s21 s22 s23 s24 : Option Sl} {i : Nat} : puK i (s0 :: s1 :: s2 :: s3 :: s4 :: s5 :: s6 :: s7 :: s8 :: s9 :: s10 :: s11 :: s12 :: s13 :: s14 :: s15 :: s16 :: s17 :: s18 :: s19 :: s20 :: s21 :: s22 :: s23 :: s24 :: some (.ow n ds) :: r) (.own 25) h kP = cP i (s0 :: s1 :: s2 :: s3 :: s4 :: s5 :: s6 :: s7 :: s8 :: s9 :: s10 :: s11 :: s12 :: s13 :: s14 :: s15 :: s16 :: s17 :: s18 :: s19 :: s20 :: s21 :: s22 :: s23 :: s24 :: some (.sh n (.list ds)) :: r) (some (.sh n (.list ds))) kP := id rfl
@[simp ↓ low] theorem aO_25 {s0 s1 s2 s3 s4 s5 s6 s7 s8 s9 s10 s11 s12 s13 s14 s15 s16 s17 s18 s19 s20 s21 s22 s23 s24 : Option Sl} : apK 25 (s0 :: s1 :: s2 :: s3 :: s4 :: s5 :: s6 :: s7 :: s8 :: s9 :: s10 :: s11 :: s12 :: s13 :: s14 :: s15 :: s16 :: s17 :: s18 :: s19 :: s20 :: s21 :: s22 :: s23 :: s24 :: some (.ow n ds) :: r) m d h kO = grd (decide (ds.length < 1000000)) (kO (.nx (s0 :: s1 :: s2 :: s3 :: s4 :: s5 :: s6 :: s7 :: s8 :: s9 :: s10 :: s11 :: s12 :: s13 :: s14 :: s15 :: s16 :: s17 :: s18 :: s19 :: s20 :: s21 :: s22 :: s23 :: s24 :: some (.ow (n && m) (ds ++ [d])) :: r))) := by
  exact on_grd _ _ _ _
@[simp ↓ low] theorem sO_25 {s0 s1 s2 s3 s4 s5 s6 s7 s8 s9 s10 s11 s12 s13 s14 s15 s16 s17 s18 s19 s20 s21 s22 s23 s24 : Option Sl} (z : 0 ≤ j ∧ j < ds.length) : siK 25 (s0 :: s1 :: s2 :: s3 :: s4 :: s5 :: s6 :: s7 :: s8 :: s9 :: s10 :: s11 :: s12 :: s13 :: s14 :: s15 :: s16 :: s17 :: s18 :: s19 :: s20 :: s21 :: s22 :: s23 :: s24 :: some (.ow n ds) :: r) m d (.int j) h kO = kO (.nx (s0 :: s1 :: s2 :: s3 :: s4 :: s5 :: s6 :: s7 :: s8 :: s9 :: s10 :: s11 :: s12 :: s13 :: s14 :: s15 :: s16 :: s17 :: s18 :: s19 :: s20 :: s21 :: s22 :: s23 :: s24 :: some (.ow (n && m) (ds.set j.toNat d)) :: r)) := by
  unfold siK; rw [show gt (s0 :: s1 :: s2 :: s3 :: s4 :: s5 :: s6 :: s7 :: s8 :: s9 :: s10 :: s11 :: s12 :: s13 :: s14 :: s15 :: s16 :: s17 :: s18 :: s19 :: s20 :: s21 :: s22 :: s23 :: s24 :: some (.ow n ds) :: r) 25 = some (.ow n ds) from rfl, setS_ow, ixN_in z]; rfl
@[simp ↓] theorem aOm_25 {s0 s1 s2 s3 s4 s5 s6 s7 s8 s9 s10 s11 s12 s13 s14 s15 s16 s17 s18 s19 s20 s21 s22 s23 s24 : Option Sl} : apK 25 (s0 :: s1 :: s2 :: s3 :: s4 :: s5 :: s6 :: s7 :: s8 :: s9 :: s10 :: s11 :: s12 :: s13 :: s14 :: s15 :: s16 :: s17 :: s18 :: s19 :: s20 :: s21 :: s22 :: s23 :: s24 :: some (.ow n (xs.map c)) :: r) m (c z) h kO = grd (decide (xs.length < 1000000)) (kO (.nx (s0 :: s1 :: s2 :: s3 :: s4 :: s5 :: s6 :: s7 :: s8 :: s9 :: s10 :: s11 :: s12 :: s13 :: s14 :: s15 :: s16 :: s17 :: s18 :: s19 :: s20 :: s21 :: s22 :: s23 :: s24 :: some (.ow (n && m) ((xs ++ [z]).map c)) :: r))) := by
  rw [aO_25, List.length_map, map_snoc]
@[simp ↓] theorem sOm_25 {s0 s1 s2 s3 s4 s5 s6 s7 s8 s9 s10 s11 s12 s13 s14 s15 s16 s17 s18 s19 s20 s21 s22 s23 s24 : Option Sl} (q : 0 ≤ j ∧ j < xs.length) : siK 25 (s0 :: s1 :: s2 :: s3 :: s4 :: s5 :: s6 :: s7 :: s8 :: s9 :: s10 :: s11 :: s12 :: s13 :: s14 :: s15 :: s16 :: s17 :: s18 :: s19 :: s20 :: s21 :: s22 :: s23 :: s24 :: some (.ow n (xs.map c)) :: r) m (c z) (.int j) h kO = kO (.nx (s0 :: s1 :: s2 :: s3 :: s4 :: s5 :: s6 :: s7 :: s8 :: s9 :: s10 :: s11 :: s12 :: s13 :: s14 :: s15 :: s16 :: s17 :: s18 :: s19 :: s20 :: s21 :: s22 :: s23 :: s24 :: some (.ow (n && m) ((ist xs j z).map c)) :: r)) := by
  rw [sO_25 (by rw [List.length_map]; exact q), map_set]; rfl
@[simp ↓] theorem eS_26 {s0 s1 s2 s3 s4 s5 s6 s7 s8 s9 s10 s11 s12 s13 s14 s15 s16 s17 s18 s19 s20 s21 s22 s23 s24 s25 : Option Sl} : cE (fVar 26) (s0 :: s1 :: s2 :: s3 :: s4 :: s5 :: s6 :: s7 :: s8 :: s9 :: s10 :: s11 :: s12 :: s13 :: s14 :: s15 :: s16 :: s17 :: s18 :: s19 :: s20 :: s21 :: s22 :: s23 :: s24 :: s25 :: some (.sh n d) :: r) h kE = kE (s0 :: s1 :: s2 :: s3 :: s4 :: s5 :: s6 :: s7 :: s8 :: s9 :: s10 :: s11 :: s12 :: s13 :: s14 :: s15 :: s16 :: s17 :: s18 :: s19 :: s20 :: s21 :: s22 :: s23 :: s24 :: s25 :: some (.sh n d) :: r) (.sh n d) := id rfl
@[simp ↓] theorem eO_26 {s0 s1 s2 s3 s4 s5 s6 s7 s8 s9 s10 s11 s12 s13 s14 s15 s16 s17 s18 s19 s20 s21 s22 s23 s24 s25 : Option Sl} : cE (fVar 26) (s0 :: s1 :: s2 :: s3 :: s4 :: s5 :: s6 :: s7 :: s8 :: s9 :: s10 :: s11 :: s12 :: s13 :: s14 :: s15 :: s16 :: s17 :: s18 :: s19 :: s20 :: s21 :: s22 :: s23 :: s24 :: s25 :: some (.ow n ds) :: r) h kE = kE (s0 :: s1 :: s2 :: s3 :: s4 :: s5 :: s6 :: s7 :: s8 :: s9 :: s10 :: s11 :: s12 :: s13 :: s14 :: s15 :: s16 :: s17 :: s18 :: s19 :: s20 :: s21 :: s22 :: s23 :: s24 :: s25 :: some (.ow n ds) :: r) (.own 26) := id rfl
@[simp ↓] theorem eSl_26 {s0 s1 s2 s3 s4 s5 s6 s7 s8 s9 s10 s11 s12 s13 s14 s15 s16 s17 s18 s19 s20 s21 s22 s23 s24 s25 : Option Sl} : cE (fVar 26) (lent (s0 :: s1 :: s2 :: s3 :: s4 :: s5 :: s6 :: s7 :: s8 :: s9 :: s10 :: s11 :: s12 :: s13 :: s14 :: s15 :: s16 :: s17 :: s18 :: s19 :: s20 :: s21 :: s22 :: s23 :: s24 :: s25 :: some (.sh n d) :: r)) h kE = kE (lent (s0 :: s1 :: s2 :: s3 :: s4 :: s5 :: s6 :: s7 :: s8 :: s9 :: s10 :: s11 :: s12 :: s13 :: s14 :: s15 :: s16 :: s17 :: s18 :: s19 :: s20 :: s21 :: s22 :: s23 :: s24 :: s25 :: some (.sh n d) :: r)) (.sh n d) := id rfl
@[simp ↓] theorem eOl_26 {s0 s1 s2 s3 s4 s5 s6 s7 s8 s9 s10 s11 s12 s13 s14 s15 s16 s17 s18 s19 s20 s21 s22 s23 s24 s25 : Option Sl} : cE (fVar 26) (lent (s0 :: s1 :: s2 :: s3 :: s4 :: s5 :: s6 :: s7 :: s8 :: s9 :: s10 :: s11 :: s12 :: s13 :: s14 :: s15 :: s16 :: s17 :: s18 :: s19 :: s20 :: s21 :: s22 :: s23 :: s24 :: s25 :: some (.ow n ds) :: r)) h kE = kE (lent (s0 :: s1 :: s2 :: s3 :: s4 :: s5 :: s6 :: s7 :: s8 :: s9 :: s10 :: s11 :: s12 :: s13 :: s14 :: s15 :: s16 :: s17 :: s18 :: s19 :: s20 :: s21 :: s22 :: s23 :: s24 :: s25 :: some (.ow n ds) :: r)) (.sh n (.list ds)) := id rfl
@[simp ↓] theorem vS_26 {s0 s1 s2 s3 s4 s5 s6 s7 s8 s9 s10 s11 s12 s13 s14 s15 s16 s17 s18 s19 s20 s21 s22 s23 s24 s25 : Option Sl} : cV (rd (fVar 26)) (s0 :: s1 :: s2 :: s3 :: s4 :: s5 :: s6 :: s7 :: s8 :: s9 :: s10 :: s11 :: s12 :: s13 :: s14 :: s15 :: s16 :: s17 :: s18 :: s19 :: s20 :: s21 :: s22 :: s23 :: s24 :: s25 :: some (.sh n d) :: r) h kV = kV (s0 :: s1 :: s2 :: s3 :: s4 :: s5 :: s6 :: s7 :: s8 :: s9 :: s10 :: s11 :: s12 :: s13 :: s14 :: s15 :: s16 :: s17 :: s18 :: s19 :: s20 :: s21 :: s22 :: s23 :: s24 :: s25 :: some (.sh n d) :: r) n d := id rfl
@[simp ↓] theorem vO_26 {s0 s1 s2 s3 s4 s5 s6 s7 s8 s9 s10 s11 s12 s13 s14 s15 s16 s17 s18 s19 s20 s21 s22 s23 s24 s25 : Option Sl} : cV (rd (fVar 26)) (s0 :: s1 :: s2 :: s3 :: s4 :: s5 :: s6 :: s7 :: s8 :: s9 :: s10 :: s11 :: s12 :: s13 :: s14 :: s15 :: s16 :: s17 :: s18 :: s19 :: s20 :: s21 :: s22 :: s23 :: s24 :: s25 :: some (.ow n ds) :: r) h kV = kV (s0 :: s1 :: s2 :: s3 :: s4 :: s5 :: s6 :: s7 :: s8 :: s9 :: s10 :: s11 :: s12 :: s13 :: s14 :: s15 :: s16 :: s17 :: s18 :: s19 :: s20 :: s21 :: s22 :: s23 :: s24 :: s25 :: some (.ow n ds) :: r) n (.list ds) := id rfl
@[simp ↓] theorem vSl_26 {s0 s1 s2 s3 s4 s5 s6 s7 s8 s9 s10 s11 s12 s13 s14 s15 s16 s17 s18 s19 s20 s21 s22 s23 s24 s25 : Option Sl} : cV (rd (fVar 26)) (lent (s0 :: s1 :: s2 :: s3 :: s4 :: s5 :: s6 :: s7 :: s8 :: s9 :: s10 :: s11 :: s12 :: s13 :: s14 :: s15 :: s16 :: s17 :: s18 :: s19 :: s20 :: s21 :: s22 :: s23 :: s24 :: s25 :: some (.sh n d) :: r)) h kV = kV (lent (s0 :: s1 :: s2 :: s3 :: s4 :: s5 :: s6 :: s7 :: s8 :: s9 :: s10 :: s11 :: s12 :: s13 :: s14 :: s15 :: s16 :: s17 :: s18 :: s19 :: s20 :: s21 :: s22 :: s23 :: s24 :: s25 :: some (.sh n d) :: r)) n d := id rfl
@[simp ↓] theorem vOl_26 {s0 s1 s2 s3 s4 s5 s6 s7 s8 s9 s10 s11 s12 s13 s14 s15 s16 s17 s18 s19 s20 s21 s22 s23 s24 s25 : Option Sl} : cV (rd (fVar 26)) (lent (s0 :: s1 :: s2 :: s3 :: s4 :: s5 :: s6 :: s7 :: s8 :: s9 :: s10 :: s11 :: s12 :: s13 :: s14 :: s15 :: s16 :: s17 :: s18 :: s19 :: s20 :: s21 :: s22 :: s23 :: s24 :: s25 :: some (.ow n ds) :: r)) h kV = kV (lent (s0 :: s1 :: s2 :: s3 :: s4 :: s5 :: s6 :: s7 :: s8 :: s9 :: s10 :: s11 :: s12 :: s13 :: s14 :: s15 :: s16 :: s17 :: s18 :: s19 :: s20 :: s21 :: s22 :: s23 :: s24 :: s25 :: some (.ow n ds) :: r)) n (.list ds) := id rfl
@[simp ↓] theorem kS_26 {s0 s1 s2 s3 s4 s5 s6 s7 s8 s9 s10 s11 s12 s13 s14 s15 s16 s17 s18 s19 s20 s21 s22 s23 s24 s25 : Option Sl} : cV (st (fVar 26)) (s0 :: s1 :: s2 :: s3 :: s4 :: s5 :: s6 :: s7 :: s8 :: s9 :: s10 :: s11 :: s12 :: s13 :: s14 :: s15 :: s16 :: s17 :: s18 :: s19 :: s20 :: s21 :: s22 :: s23 :: s24 :: s25 :: some (.sh n d) :: r) h kV = kV (s0 :: s1 :: s2 :: s3 :: s4 :: s5 :: s6 :: s7 :: s8 :: s9 :: s10 :: s11 :: s12 :: s13 :: s14 :: s15 :: s16 :: s17 :: s18 :: s19 :: s20 :: s21 :: s22 :: s23 :: s24 :: s25 :: some (.sh n d) :: r) n d := id rfl
@[simp ↓] theorem kO_26 {s0 s1 s2 s3 s4 s5 s6 s7 s8 s9 s10 s11 s12 s13 s14 s15 s16 s17 s18 s19 s20 s21 s22 s23 s24 s25 : Option Sl} : cV (st (fVar 26)) (s0 :: s1 :: s2 :: s3 :: s4 :: s5 :: s6 :: s7 :: s8 :: s9 :: s10 :: s11 :: s12 :: s13 :: s14 :: s15 :: s16 :: s17 :: s18 :: s19 :: s20 :: s21 :: s22 :: s23 :: s24 :: s25 :: some (.ow n ds) :: r) h kV = kV (s0 :: s1 :: s2 :: s3 :: s4 :: s5 :: s6 :: s7 :: s8 :: s9 :: s10 :: s11 :: s12 :: s13 :: s14 :: s15 :: s16 :: s17 :: s18 :: s19 :: s20 :: s21 :: s22 :: s23 :: s24 :: s25 :: some (.sh n (.list ds)) :: r) n (.list ds) := id rfl
@[simp ↓] theorem kSl_26 {s0 s1 s2 s3 s4 s5 s6 s7 s8 s9 s10 s11 s12 s13 s14 s15 s16 s17 s18 s19 s20 s21 s22 s23 s24 s25 : Option Sl} : cV (st (fVar 26)) (lent (s0 :: s1 :: s2 :: s3 :: s4 :: s5 :: s6 :: s7 :: s8 :: s9 :: s10 :: s11 :: s12 :: s13 :: s14 :: s15 :: s16 :: s17 :: s18 :: s19 :: s20 :: s21 :: s22 :: s23 :: s24 :: s25 :: some (.sh n d) :: r)) h kV = kV (lent (s0 :: s1 :: s2 :: s3 :: s4 :: s5 :: s6 :: s7 :: s8 :: s9 :: s10 :: s11 :: s12 :: s13 :: s14 :: s15 :: s16 :: s17 :: s18 :: s19 :: s20 :: s21 :: s22 :: s23 :: s24 :: s25 :: some (.sh n d) :: r)) n d := id rfl
@[simp ↓] theorem kOl_26 {s0 s1 s2 s3 s4 s5 s6 s7 s8 s9 s10 s11 s12 s13 s14 s15 s16 s17 s18 s19 s20 s21 s22 s23 s24 s25 : Option Sl} : cV (st (fVar 26)) (lent (s0 :: s1 :: s2 :: s3 :: s4 :: s5 :: s6 :: s7 :: s8 :: s9 :: s10 :: s11 :: s12 :: s13 :: s14 :: s15 :: s16 :: s17 :: s18 :: s19 :: s20 :: s21 :: s22 :: s23 :: s24 :: s25 :: some (.ow n ds) :: r)) h kV = kV (lent (s0 :: s1 :: s2 :: s3 :: s4 :: s5 :: s6 :: s7 :: s8 :: s9 :: s10 :: s11 :: s12 :: s13 :: s14 :: s15 :: s16 :: s17 :: s18 :: s19 :: s20 :: s21 :: s22 :: s23 :: s24 :: s25 :: some (.sh n (.list ds)) :: r)) n (.list ds) := id rfl
@[simp ↓] theorem p_26 {s0 s1 s2 s3 s4 s5 s6 s7 s8 s9 s10 s11 s12 s13 s14 s15 s16 s17 s18 s19 s20 s21 s22 s23 s24 s25 : Option Sl} : cP 26 (s0 :: s1 :: s2 :: s3 :: s4 :: s5 :: s6 :: s7 :: s8 :: s9 :: s10 :: s11 :: s12 :: s13 :: s14 :: s15 :: s16 :: s17 :: s18 :: s19 :: s20 :: s21 :: s22 :: s23 :: s24 :: s25 :: x :: r) y kP = kP (s0 :: s1 :: s2 :: s3 :: s4 :: s5 :: s6 :: s7 :: s8 :: s9 :: s10 :: s11 :: s12 :: s13 :: s14 :: s15 :: s16 :: s17 :: s18 :: s19 :: s20 :: s21 :: s22 :: s23 :: s24 :: s25 :: y :: r) := id rfl
@[simp ↓] theorem rO_26 {s0 s1 s2 s3 s4 s5 s6 s7 s8 s9 s10 s11 s12 s13 s14 s15 s16 s17 s18 s19 s20 s21 s22 s23 s24 s25 : Option Sl} : reK (s0 :: s1 :: s2 :: s3 :: s4 :: s5 :: s6 :: s7 :: s8 :: s9 :: s10 :: s11 :: s12 :: s13 :: s14 :: s15 :: s16 :: s17 :: s18 :: s19 :: s20 :: s21 :: s22 :: s23 :: s24 :: s25 :: some (.ow n ds) :: r) (.own 26) h kO = kO (.rt (.nw n ds)) := id rfl
@[simp ↓] theorem iO_26 {s0 s1 s2 s3 s4 s5 s6 s7 s8 s9 s10 s11 s12 s13 s14 s15 s16 s17 s18 s19 s20 s21 s22 s23 s24 s25 : Option Sl} {z : Rs β} : grd (isOw (gt (s0 :: s1 :: s2 :: s3 :: s4 :: s5 :: s6 :: s7 :: s8 :: s9 :: s10 :: s11 :: s12 :: s13 :: s14 :: s15 :: s16 :: s17 :: s18 :: s19 :: s20 :: s21 :: s22 :: s23 :: s24 :: s25 :: some (.ow n ds) :: r) 26)) z = z := id rfl
@[simp ↓] theorem rdO_26 {s0 s1 s2 s3 s4 s5 s6 s7 s8 s9 s10 s11 s12 s13 s14 s15 s16 s17 s18 s19 s20 s21 s22 s23 s24 s25 : Option Sl} : rdK (s0 :: s1 :: s2 :: s3 :: s4 :: s5 :: s6 :: s7 :: s8 :: s9 :: s10 :: s11 :: s12 :: s13 :: s14 :: s15 :: s16 :: s17 :: s18 :: s19 :: s20 :: s21 :: s22 :: s23 :: s24 :: s25 :: some (.ow n ds) :: r) (.own 26) h kV = kV (s0 :: s1 :: s2 :: s3 :: s4 :: s5 :: s6 :: s7 :: s8 :: s9 :: s10 :: s11 :: s12 :: s13 :: s14 :: s15 :: s16 :: s17 :: s18 :: s19 :: s20 :: s21 :: s22 :: s23 :: s24 :: s25 :: some (.ow n ds) :: r) n (.list ds) := id rfl
@[simp ↓] theorem stO_26 {s0 s1 s2 s3 s4 s5 s6 s7 s8 s9 s10 s11 s12 s13 s14 s15 s16 s17 s18 s19 s20 s21 s22 s23 s24 s25 : Option Sl} : stK (s0 :: s1 :: s2 :: s3 :: s4 :: s5 :: s6 :: s7 :: s8 :: s9 :: s10 :: s11 :: s12 :: s13 :: s14 :: s15 :: s16 :: s17 :: s18 :: s19 :: s20 :: s21 :: s22 :: s23 :: s24 :: s25 :: some (.ow n ds) :: r) (.own 26) h kV = kV (s0 :: s1 :: s2 :: s3 :: s4 :: s5 :: s6 :: s7 :: s8 :: s9 :: s10 :: s11 :: s12 :: s13 :: s14 :: s15 :: s16 :: s17 :: s18 :: s19 :: s20 :: s21 :: s22 :: s23 :: s24 :: s25 :: some (.sh n (.list ds)) :: r) n (.list ds) := id rfl
@[simp ↓] theorem pO_26 {s0 s1 s2 s3 s4 s5 s6 s7 s8 s9 s10 s11 s12 s13 s14 s15 s16 s17 s18 s19 s20 s21 s22 s23 s24 s25 : Option Sl} {i : Nat} : puK i (s0 :: s1 :: s2 :: s3 :: s4 :: s5 :: s6 :: s7 :: s8 :: s9 :: s10 :: s11 :: s12 :: s13 :: s14 :: s15 :: s16 :: s17 :: s18 :: s19 :: s20 :: s21 :: s22 :: s23 :: s24 :: s25 :: some (.ow n ds) :: r) (.own 26) h kP = cP i (s0 :: s1 :: s2 :: s3 :: s4 :: s5 :: s6 :: s7 :: s8 :: s9 :: s10 :: s11 :: s12 :: s13 :: s14 :: s15 :: s16 :: s17 :: s18 :: s19 :: s20 :: s21 :: s22 :: s23 :: s24 :: s25 :: some (.sh n (.list ds)) :: r) (some (.sh n (.list ds))) kP := id rfl
@[simp ↓ low] theorem aO_26 {s0 s1 s2 s3 s4 s5 s6 s7 s8 s9 s10 s11 s12 s13 s14 s15 s16 s17 s18 s19 s20 s21 s22 s23 s24 s25 : Option Sl} : apK 26 (s0 :: s1 :: s2 :: s3 :: s4 :: s5 :: s6 :: s7 :: s8 :: s9 :: s10 :: s11 :: s12 :: s13 :: s14 :: s15 :: s16 :: s17 :: s18 :: s19 :: s20 :: s21 :: s22 :: s23 :: s24 :: s25 :: some (.ow n ds) :: r) m d h kO = grd (decide (ds.length < 1000000)) (kO (.nx (s0 :: s1 :: s2 :: s3 :: s4 :: s5 :: s6 :: s7 :: s8 :: s9 :: s10 :: s11 :: s12 :: s13 :: s14 :: s15 :: s16 :: s17 :: s18 :: s19 :: s20 :: s21 :: s22 :: s23 :: s24 :: s25 :: some (.ow (n && m) (ds ++ [d])) :: r))) := by
  exact on_grd _ _ _ _
@[simp ↓ low] theorem sO_26 {s0 s1 s2 s3 s4 s5 s6 s7 s8 s9 s10 s11 s12 s13 s14 s15 s16 s17 s18 s19 s20 s21 s22 s23 s24 s25 : Option Sl} (z : 0 ≤ j ∧ j < ds.length) : siK 26 (s0 :: s1 :: s2 :: s3 :: s4 :: s5 :: s6 :: s7 :: s8 :: s9 :: s10 :: s11 :: s12 :: s13 :: s14 :: s15 :: s16 :: s17 :: s18 :: s19 :: s20 :: s21 :: s22 :: s23 :: s24 :: s25 :: some (.ow n ds) :: r) m d (.int j) h kO = kO (.nx (s0 :: s1 :: s2 :: s3 :: s4 :: s5 :: s6 :: s7 :: s8 :: s9 :: s10 :: s11 :: s12 :: s13 :: s14 :: s15 :: s16 :: s17 :: s18 :: s19 :: s20 :: s21 :: s22 :: s23 :: s24 :: s25 :: some (.ow (n && m) (ds.set j.toNat d)) :: r)) := by
  unfold siK; rw [show gt (s0 :: s1 :: s2 :: s3 :: s4 :: s5 :: s6 :: s7 :: s8 :: s9 :: s10 :: s11 :: s12 :: s13 :: s14 :: s15 :: s16 :: s17 :: s18 :: s19 :: s20 :: s21 :: s22 :: s23 :: s24 :: s25 :: some (.ow n ds) :: r) 26 = some (.ow n ds) from rfl, setS_ow, ixN_in z]; rfl
@[simp ↓] theorem aOm_26 {s0 s1 s2 s3 s4 s5 s6 s7 s8 s9 s10 s11 s12 s13 s14 s15 s16 s17 s18 s19 s20 s21 s22 s23 s24 s25 : Option Sl} : apK 26 (s0 :: s1 :: s2 :: s3 :: s4 :: s5 :: s6 :: s7 :: s8 :: s9 :: s10 :: s11 :: s12 :: s13 :: s14 :: s15 :: s16 :: s17 :: s18 :: s19 :: s20 :: s21 :: s22 :: s23 :: s24 :: s25 :: some (.ow n (xs.map c)) :: r) m (c z) h kO = grd (decide (xs.length < 1000000)) (kO (.nx (s0 :: s1 :: s2 :: s3 :: s4 :: s5 :: s6 :: s7 :: s8 :: s9 :: s10 :: s11 :: s12 :: s13 :: s14 :: s15 :: s16 :: s17 :: s18 :: s19 :: s20 :: s21 :: s22 :: s23 :: s24 :: s25 :: some (.ow (n && m) ((xs ++ [z]).map c)) :: r))) := by
  rw [aO_26, List.length_map, map_snoc]
@[simp ↓] theorem sOm_26 {s0 s1 s2 s3 s4 s5 s6 s7 s8 s9 s10 s11 s12 s13 s14 s15 s16 s17 s18 s19 s20 s21 s22 s23 s24 s25 : Option Sl} (q : 0 ≤ j ∧ j < xs.length) : siK 26 (s0 :: s1 :: s2 :: s3 :: s4 :: s5 :: s6 :: s7 :: s8 :: s9 :: s10 :: s11 :: s12 :: s13 :: s14 :: s15 :: s16 :: s17 :: s18 :: s19 :: s20 :: s21 :: s22 :: s23 :: s24 :: s25 :: some (.ow n (xs.map c)) :: r) m (c z) (.int j) h kO = kO (.nx (s0 :: s1 :: s2 :: s3 :: s4 :: s5 :: s6 :: s7 :: s8 :: s9 :: s10 :: s11 :: s12 :: s13 :: s14 :: s15 :: s16 :: s17 :: s18 :: s19 :: s20 :: s21 :: s22 :: s23 :: s24 :: s25 :: some (.ow (n && m) ((ist xs j z).map c)) :: r)) := by
  rw [sO_26 (by rw [List.length_map]; exact q), map_set]; rfl
@[simp ↓] theorem eS_27 {s0 s1 s2 s3 s4 s5 s6 s7 s8 s9 s10 s11 s12 s13 s14 s15 s16 s17 s18 s19 s20 s21 s22 s23 s24 s25 s26 : Option Sl} : cE (fVar 27) (s0 :: s1 :: s2 :: s3 :: s4 :: s5 :: s6 :: s7 :: s8 :: s9 :: s10 :: s11 :: s12 :: s13 :: s14 :: s15 :: s16 :: s17 :: s18 :: s19 :: s20 :: s21 :: s22 :: s23 :: s24 :: s25 :: s26 :: some (.sh n d) :: r) h kE = kE (s0 :: s1 :: s2 :: s3 :: s4 :: s5 :: s6 :: s7 :: s8 :: s9 :: s10 :: s11 :: s12 :: s13 :: s14 :: s15 :: s16 :: s17 :: s18 :: s19 :: s20 :: s21 :: s22 :: s23 :: s24 :: s25 :: s26 :: some (.sh n d) :: r) (.sh n d) := id rfl
@[simp ↓] theorem eO_27 {s0 s1 s2 s3 s4 s5 s6 s7 s8 s9 s10 s11 s12 s13 s14 s15 s16 s17 s18 s19 s20 s21 s22 s23 s24 s25 s26 : Option Sl} : cE (fVar 27) (s0 :: s1 :: s2 :: s3 :: s4 :: s5 :: s6 :: s7 :: s8 :: s9 :: s10 :: s11 :: s12 :: s13 :: s14 :: s15 :: s16 :: s17 :: s18 :: s19 :: s20 :: s21 :: s22 :: s23 :: s24 :: s25 :: s26 :: some (.ow n ds) :: r) h kE = kE (s0 :: s1 :: s2 :: s3 :: s4 :: s5 :: s6 :: s7 :: s8 :: s9 :: s10 :: s11 :: s12 :: s13 :: s14 :: s15 :: s16 :: s17 :: s18 :: s19 :: s20 :: s21 :: s22 :: s23 :: s24 :: s25 :: s26 :: some (.ow n ds) :: r) (.own 27) := id rfl
@[simp ↓] theorem eSl_27 {s0 s1 s2 s3 s4 s5 s6 s7 s8 s9 s10 s11 s12 s13 s14 s15 s16 s17 s18 s19 s20 s21 s22 s23 s24 s25 s26 : Option Sl} : cE (fVar 27) (lent (s0 :: s1 :: s2 :: s3 :: s4 :: s5 :: s6 :: s7 :: s8 :: s9 :: s10 :: s11 :: s12 :: s13 :: s14 :: s15 :: s16 :: s17 :: s18 :: s19 :: s20 :: s21 :: s22 :: s23 :: s24 :: s25 :: s26 :: some (.sh n d) :: r)) h kE = kE (lent (s0 :: s1 :: s2 :: s3 :: s4 :: s5 :: s6 :: s7 :: s8 :: s9 :: s10 :: s11 :: s12 :: s13 :: s14 :: s15 :: s16 :: s17 :: s18 :: s19 :: s20 :: s21 :: s22 :: s23 :: s24 :: s25 :: s26 :: some (.sh n d) :: r)) (.sh n d) := id rfl
@[simp ↓] theorem eOl_27 {s0 s1 s2 s3 s4 s5 s6 s7 s8 s9 s10 s11 s12 s13 s14 s15 s16 s17 s18 s19 s20 s21 s22 s23 s24 s25 s26 : Option Sl} : cE (fVar 27) (lent (s0 :: s1 :: s2 :: s3 :: s4 :: s5 :: s6 :: s7 :: s8 :: s9 :: s10 :: s11 :: s12 :: s13 :: s14 :: s15 :: s16 :: s17 :: s18 :: s19 :: s20 :: s21 :: s22 :: s23 :: s24 :: s25 :: s26 :: some (.ow n ds) :: r)) h kE = kE (lent (s0 :: s1 :: s2 :: s3 :: s4 :: s5 :: s6 :: s7 :: s8 :: s9 :: s10 :: s11 :: s12 :: s13 :: s14 :: s15 :: s16 :: s17 :: s18 :: s19 :: s20 :: s21 :: s22 :: s23 :: s24 :: s25 :: s26 :: some (.ow n ds) :: r)) (.sh n (.list ds)) := id rfl
@[simp ↓] theorem vS_27 {s0 s1 s2 s3 s4 s5 s6 s7 s8 s9 s10 s11 s12 s13 s14 s15 s16 s17 s18 s19 s20 s21 s22 s23 s24 s25 s26 : Option Sl} : cV (rd (fVar 27)) (s0 :: s1 :: s2 :: s3 :: s4 :: s5 :: s6 :: s7 :: s8 :: s9 :: s10 :: s11 :: s12 :: s13 :: s14 :: s15 :: s16 :: s17 :: s18 :: s19 :: s20 :: s21 :: s22 :: s23 :: s24 :: s25 :: s26 :: some (.sh n d) :: r) h kV = kV (s0 :: s1 :: s2 :: s3 :: s4 :: s5 :: s6 :: s7 :: s8 :: s9 :: s10 :: s11 :: s12 :: s13 :: s14 :: s15 :: s16 :: s17 :: s18 :: s19 :: s20 :: s21 :: s22 :: s23 :: s24 :: s25 :: s26 :: some (.sh n d) :: r) n d := id rfl
@[simp ↓] theorem vO_27 {s0 s1 s2 s3 s4 s5 s6 s7 s8 s9 s10 s11 s12 s13 s14 s15 s16 s17 s18 s19 s20 s21 s22 s23 s24 s25 s26 : Option Sl} : cV (rd (fVar 27)) (s0 :: s1 :: s2 :: s3 :: s4 :: s5 :: s6 :: s7 :: s8 :: s9 :: s10 :: s11 :: s12 :: s13 :: s14 :: s15 :: s16 :: s17 :: s18 :: s19 :: s20 :: s21 :: s22 :: s23 :: s24 :: s25 :: s26 :: some (.ow n ds) :: r) h kV = kV (s0 :: s1 :: s2 :: s3 :: s4 :: s5 :: s6 :: s7 :: s8 :: s9 :: s10 :: s11 :: s12 :: s13 :: s14 :: s15 :: s16 :: s17 :: s18 :: s19 :: s20 :: s21 :: s22 :: s23 :: s24 :: s25 :: s26 :: some (.ow n ds) :: r) n (.list ds) := id rfl
@[simp ↓] theorem vSl_27 {s0 s1 s2 s3 s4 s5 s6 s7 s8 s9 s10 s11 s12 s13 s14 s15 s16 s17 s18 s19 s20 s21 s22 s23 s24 s25 s26 : Option Sl} : cV (rd (fVar 27)) (lent (s0 :: s1 :: s2 :: s3 :: s4 :: s5 :: s6 :: s7 :: s8 :: s9 :: s10 :: s11 :: s12 :: s13 :: s14 :: s15 :: s16 :: s17 :: s18 :: s19 :: s20 :: s21 :: s22 :: s23 :: s24 :: s25 :: s26 :: some (.sh n d) :: r)) h kV = kV (lent (s0 :: s1 :: s2 :: s3 :: s4 :: s5 :: s6 :: s7 :: s8 :: s9 :: s10 :: s11 :: s12 :: s13 :: s14 :: s15 :: s16 :: s17 :: s18 :: s19 :: s20 :: s21 :: s22 :: s23 :: s24 :: s25 :: s26 :: some (.sh n d) :: r)) n d := id rfl
@[simp ↓] theorem vOl_27 {s0 s1 s2 s3 s4 s5 s6 s7 s8 s9 s10 s11 s12 s13 s14 s15 s16 s17 s18 s19 s20 s21 s22 s23 s24 s25 s26 : Option Sl} : cV (rd (fVar 27)) (lent (s0 :: s1 :: s2 :: s3 :: s4 :: s5 :: s6 :: s7 :: s8 :: s9 :: s10 :: s11 :: s12 :: s13 :: s14 :: s15 :: s16 :: s17 :: s18 :: s19 :: s20 :: s21 :: s22 :: s23 :: s24 :: s25 :: s26 :: some (.ow n ds) :: r)) h kV = kV (lent (s0 :: s1 :: s2 :: s3 :: s4 :: s5 :: s6 :: s7 :: s8 :: s9 :: s10 :: s11 :: s12 :: s13 :: s14 :: s15 :: s16 :: s17 :: s18 :: s19 :: s20 :: s21 :: s22 :: s23 :: s24 :: s25 :: s26 :: some (.ow n ds) :: r)) n (.list ds) := id rfl
@[simp ↓] theorem kS_27 {s0 s1 s2 s3 s4 s5 s6 s7 s8 s9 s10 s11 s12 s13 s14 s15 s16 s17 s18 s19 s20 s21 s22 s23 s24 s25 s26 : Option Sl} : cV (st (fVar 27)) (s0 :: s1 :: s2 :: s3 :: s4 :: s5 :: s6 :: s7 :: s8 :: s9 :: s10 :: s11 :: s12 :: s13 :: s14 :: s15 :: s16 :: s17 :: s18 :: s19 :: s20 :: s21 :: s22 :: s23 :: s24 :: s25 :: s26 :: some (.sh n d) :: r) h kV = kV (s0 :: s1 :: s2 :: s3 :: s4 :: s5 :: s6 :: s7 :: s8 :: s9 :: s10 :: s11 :: s12 :: s13 :: s14 :: s15 :: s16 :: s17 :: s18 :: s19 :: s20 :: s21 :: s22 :: s23 :: s24 :: s25 :: s26 :: some (.sh n d) :: r) n d := id rfl
@[simp ↓] theorem kO_27 {s0 s1 s2 s3 s4 s5 s6 s7 s8 s9 s10 s11 s12 s13 s14 s15 s16 s17 s18 s19 s20 s21 s22 s23 s24 s25 s26 : Option Sl} : cV (st (fVar 27)) (s0 :: s1 :: s2 :: s3 :: s4 :: s5 :: s6 :: s7 :: s8 :: s9 :: s10 :: s11 :: s12 :: s13 :: s14 :: s15 :: s16 :: s17 :: s18 :: s19 :: s20 :: s21 :: s22 :: s23 :: s24 :: s25 :: s26 :: some (.ow n ds) :: r) h kV = kV (s0 :: s1 :: s2 :: s3 :: s4 :: s5 :: s6 :: s7 :: s8 :: s9 :: s10 :: s11 :: s12 :: s13 :: s14 :: s15 :: s16 :: s17 :: s18 :: s19 :: s20 :: s21 :: s22 :: s23 :: s24 :: s25 :: s26 :: some (.sh n (.list ds)) :: r) n (.list ds) := id rfl
@[simp ↓] theorem kSl_27 {s0 s1 s2 s3 s4 s5 s6 s7 s8 s9 s10 s11 s12 s13 s14 s15 s16 s17 s18 s19 s20 s21 s22 s23 s24 s25 s26 : Option Sl} : cV (st (fVar 27)) (lent (s0 :: s1 :: s2 :: s3 :: s4 :: s5 :: s6 :: s7 :: s8 :: s9 :: s10 :: s11 :: s12 :: s13 :: s14 :: s15 :: s16 :: s17 :: s18 :: s19 :: s20 :: s21 :: s22 :: s23 :: s24 :: s25 :: s26 :: some (.sh n d) :: r)) h kV = kV (lent (s0 :: s1 :: s2 :: s3 :: s4 :: s5 :: s6 :: s7 :: s8 :: s9 :: s10 :: s11 :: s12 :: s13 :: s14 :: s15 :: s16 :: s17 :: s18 :: s19 :: s20 :: s21 :: s22 :: s23 :: s24 :: s25 :: s26 :: some (.sh n d) :: r)) n d := id rfl
@[simp ↓] theorem kOl_27 {s0 s1 s2 s3 s4 s5 s6 s7 s8 s9 s10 s11 s12 s13 s14 s15 s16 s17 s18 s19 s20 s21 s22 s23 s24 s25 s26 : Option Sl} : cV (st (fVar 27)) (lent (s0 :: s1 :: s2 :: s3 :: s4 :: s5 :: s6 :: s7 :: s8 :: s9 :: s10 :: s11 :: s12 :: s13 :: s14 :: s15 :: s16 :: s17 :: s18 :: s19 :: s20 :: s21 :: s22 :: s23 :: s24 :: s25 :: s26 :: some (.ow n ds) :: r)) h kV = kV (lent (s0 :: s1 :: s2 :: s3 :: s4 :: s5 :: s6 :: s7 :: s8 :: s9 :: s10 :: s11 :: s12 :: s13 :: s14 :: s15 :: s16 :: s17 :: s18 :: s19 :: s20 :: s21 :: s22 :: s23 :: s24 :: s25 :: s26 :: some (.sh n (.list ds)) :: r)) n (.list ds) := id rfl
@[simp ↓] theorem p_27 {s0 s1 s2 s3 s4 s5 s6 s7 s8 s9 s10 s11 s12 s13 s14 s15 s16 s17 s18 s19 s20 s21 s22 s23 s24 s25 s26 : Option Sl} : cP 27 (s0 :: s1 :: s2 :: s3 :: s4 :: s5 :: s6 :: s7 :: s8 :: s9 :: s10 :: s11 :: s12 :: s13 :: s14 :: s15 :: s16 :: s17 :: s18 :: s19 :: s20 :: s21 :: s22 :: s23 :: s24 :: s25 :: s26 :: x :: r) y kP = kP (s0 :: s1 :: s2 :: s3 :: s4 :: s5 :: s6 :: s7 :: s8 :: s9 :: s10 :: s11 :: s12 :: s13 :: s14 :: s15 :: s16 :: s17 :: s18 :: s19 :: s20 :: s21 :: s22 :: s23 :: s24 :: s25 :: s26 :: y :: r) := id rfl
@[simp ↓] theorem rO_27 {s0 s1 s2 s3 s4 s5 s6 s7 s8 s9 s10 s11 s12 s13 s14 s15 s16 s17 s18 s19 s20 s21 s22 s23 s24 s25 s26 : Option Sl} : reK (s0 :: s1 :: s2 :: s3 :: s4 :: s5 :: s6 :: s7 :: s8 :: s9 :: s10 :: s11 :: s12 :: s13 :: s14 :: s15 :: s16 :: s17 :: s18 :: s19 :: s20 :: s21 :: s22 :: s23 :: s24 :: s25 :: s26 :: some (.ow n ds) :: r) (.own 27) h kO = kO (.rt (.nw n ds)) := id rfl
@[simp ↓] theorem iO_27 {s0 s1 s2 s3 s4 s5 s6 s7 s8 s9 s10 s11 s12 s13 s14 s15 s16 s17 s18 s19 s20 s21 s22 s23 s24 s25 s26 : Option Sl} {z : Rs β} : grd (isOw (gt (s0 :: s1 :: s2 :: s3 :: s4 :: s5 :: s6 :: s7 :: s8 :: s9 :: s10 :: s11 :: s12 :: s13 :: s14 :: s15 :: s16 :: s17 :: s18 :: s19 :: s20 :: s21 :: s22 :: s23 :: s24 :: s25 :: s26 :: some (.ow n ds) :: r) 27)) z = z := id rfl
@[simp ↓] theorem rdO_27 {s0 s1 s2 s3 s4 s5 s6 s7 s8 s9 s10 s11 s12 s13 s14 s15 s16 s17 s18 s19 s20 s21 s22 s23 s24 s25 s26 : Option Sl} : rdK (s0 :: s1 :: s2 :: s3 :: s4 :: s5 :: s6 :: s7 :: s8 :: s9 :: s10 :: s11 :: s12 :: s13 :: s14 :: s15 :: s16 :: s17 :: s18 :: s19 :: s20 :: s21 :: s22 :: s23 :: s24 :: s25 :: s26 :: some (.ow n ds) :: r) (.own 27) h kV = kV (s0 :: s1 :: s2 :: s3 :: s4 :: s5 :: s6 :: s7 :: s8 :: s9 :: s10 :: s11 :: s12 :: s13 :: s14 :: s15 :: s16 :: s17 :: s18 :: s19 :: s20 :: s21 :: s22 :: s23 :: s24 :: s25 :: s26 :: some (.ow n ds) :: r) n (.list ds) := id rfl
@[simp ↓] theorem stO_27 {s0 s1 s2 s3 s4 s5 s6 s7 s8 s9 s10 s11 s12 s13 s14 s15 s16 s17 s18 s19 s20 s21 s22 s23 s24 s25 s26 : Option Sl} : stK (s0 :: s1 :: s2 :: s3 :: s4 :: s5 :: s6 :: s7 :: s8 :: s9 :: s10 :: s11 :: s12 :: s13 :: s14 :: s15 :: s16 :: s17 :: s18 :: s19 :: s20 :: s21 :: s22 :: s23 :: s24 :: s25 :: s26 :: some (.ow n ds) :: r) (.own 27) h kV = kV (s0 :: s1 :: s2 :: s3 :: s4 :: s5 :: s6 :: s7 :: s8 :: s9 :: s10 :: s11 :: s12 :: s13 :: s14 :: s15 :: s16 :: s17 :: s18 :: s19 :: s20 :: s21 :: s22 :: s23 :: s24 :: s25 :: s26 :: some (.sh n (.list ds)) :: r) n (.list ds) := id rfl
@[simp ↓] theorem pO_27 {s0 s1 s2 s3 s4 s5 s6 s7 s8 s9 s10 s11 s12 s13 s14 s15 s16 s17 s18 s19 s20 s21 s22 s23 s24 s25 s26 : Option Sl} {i : Nat} : puK i (s0 :: s1 :: s2 :: s3 :: s4 :: s5 :: s6 :: s7 :: s8 :: s9 :: s10 :: s11 :: s12 :: s13 :: s14 :: s15 :: s16 :: s17 :: s18 :: s19 :: s20 :: s21 :: s22 :: s23 :: s24 :: s25 :: s26 :: some (.ow n ds) :: r) (.own 27) h kP = cP i (s0 :: s1 :: s2 :: s3 :: s4 :: s5 :: s6 :: s7 :: s8 :: s9 :: s10 :: s11 :: s12 :: s13 :: s14 :: s15 :: s16 :: s17 :: s18 :: s19 :: s20 :: s21 :: s22 :: s23 :: s24 :: s25 :: s26 :: some (.sh n (.list ds)) :: r) (some (.sh n (.list ds))) kP := id rfl
@[simp ↓ low] theorem aO_27 {s0 s1 s2 s3 s4 s5 s6 s7 s8 s9 s10 s11 s12 s13 s14 s15 s16 s17 s18 s19 s20 s21 s22 s23 s24 s25 s26 : Option Sl} : apK 27 (s0 :: s1 :: s2 :: s3 :: s4 :: s5 :: s6 :: s7 :: s8 :: s9 :: s10 :: s11 :: s12 :: s13 :: s14 :: s15 :: s16 :: s17 :: s18 :: s19 :: s20 :: s21 :: s22 :: s23 :: s24 :: s25 :: s26 :: some (.ow n ds) :: r) m d h kO = grd (decide (ds.length < 1000000)) (kO (.nx (s0 :: s1 :: s2 :: s3 :: s4 :: s5 :: s6 :: s7 :: s8 :: s9 :: s10 :: s11 :: s12 :: s13 :: s14 :: s15 :: s16 :: s17 :: s18 :: s19 :: s20 :: s21 :: s22 :: s23 :: s24 :: s25 :: s26 :: some (.ow (n && m) (ds ++ [d])) :: r))) := by
  exact on_grd _ _ _ _
@[simp ↓ low] theorem sO_27 {s0 s1 s2 s3 s4 s5 s6 s7 s8 s9 s10 s11 s12 s13 s14 s15 s16 s17 s18 s19 s20 s21 s22 s23 s24 s25 s26 : Option Sl} (z : 0 ≤ j ∧ j < ds.length) : siK 27 (s0 :: s1 :: s2 :: s3 :: s4 :: s5 :: s6 :: s7 :: s8 :: s9 :: s10 :: s11 :: s12 :: s13 :: s14 :: s15 :: s16 :: s17 :: s18 :: s19 :: s20 :: s21 :: s22 :: s23 :: s24 :: s25 :: s26 :: some (.ow n ds) :: r) m d (.int j) h kO = kO (.nx (s0 :: s1 :: s2 :: s3 :: s4 :: s5 :: s6 :: s7 :: s8 :: s9 :: s10 :: s11 :: s12 :: s13 :: s14 :: s15 :: s16 :: s17 :: s18 :: s19 :: s20 :: s21 :: s22 :: s23 :: s24 :: s25 :: s26 :: some (.ow (n && m) (ds.set j.toNat d)) :: r)) := by
  unfold siK; rw [show gt (s0 :: s1 :: s2 :: s3 :: s4 :: s5 :: s6 :: s7 :: s8 :: s9 :: s10 :: s11 :: s12 :: s13 :: s14 :: s15 :: s16 :: s17 :: s18 :: s19 :: s20 :: s21 :: s22 :: s23 :: s24 :: s25 :: s26 :: some (.ow n ds) :: r) 27 = some (.ow n ds) from rfl, setS_ow, ixN_in z]; rfl
@[simp ↓] theorem aOm_27 {s0 s1 s2 s3 s4 s5 s6 s7 s8 s9 s10 s11 s12 s13 s14 s15 s16 s17 s18 s19 s20 s21 s22 s23 s24 s25 s26 : Option Sl} : apK 27 (s0 :: s1 :: s2 :: s3 :: s4 :: s5 :: s6 :: s7 :: s8 :: s9 :: s10 :: s11 :: s12 :: s13 :: s14 :: s15 :: s16 :: s17 :: s18 :: s19 :: s20 :: s21 :: s22 :: s23 :: s24 :: s25 :: s26 :: some (.ow n (xs.map c)) :: r) m (c z) h kO = grd (decide (xs.length < 1000000)) (kO (.nx (s0 :: s1 :: s2 :: s3 :: s4 :: s5 :: s6 :: s7 :: s8 :: s9 :: s10 :: s11 :: s12 :: s13 :: s14 :: s15 :: s16 :: s17 :: s18 :: s19 :: s20 :: s21 :: s22 :: s23 :: s24 :: s25 :: s26 :: some (.ow (n && m) ((xs ++ [z]).map c)) :: r))) := by
  rw [aO_27, List.length_map, map_snoc]
@[simp ↓] theorem sOm_27 {s0 s1 s2 s3 s4 s5 s6 s7 s8 s9 s10 s11 s12 s13 s14 s15 s16 s17 s18 s19 s20 s21 s22 s23 s24 s25 s26 : Option Sl} (q : 0 ≤ j ∧ j < xs.length) : siK 27 (s0 :: s1 :: s2 :: s3 :: s4 :: s5 :: s6 :: s7 :: s8 :: s9 :: s10 :: s11 :: s12 :: s13 :: s14 :: s15 :: s16 :: s17 :: s18 :: s19 :: s20 :: s21 :: s22 :: s23 :: s24 :: s25 :: s26 :: some (.ow n (xs.map c)) :: r) m (c z) (.int j) h kO = kO (.nx (s0 :: s1 :: s2 :: s3 :: s4 :: s5 :: s6 :: s7 :: s8 :: s9 :: s10 :: s11 :: s12 :: s13 :: s14 :: s15 :: s16 :: s17 :: s18 :: s19 :: s20 :: s21 :: s22 :: s23 :: s24 :: s25 :: s26 :: some (.ow (n && m) ((ist xs j z).map c)) :: r)) := by
  rw [sO_27 (by rw [List.length_map]; exact q), map_set]; rfl
end
end Dn
namespace Dn
open PySem PySem.Spec L2
theorem range_at {n i j : Nat} (h : (List.range n)[i]? = some j) : i < n ∧ j = i := by
  by_cases hi : i < n
  · rw [List.getElem?_range hi] at h; cases h; exact ⟨hi, rfl⟩
  · rw [List.getElem?_eq_none (by simpa using hi)] at h; cases h
section
variable {β : Type} {h : HX β} {g : FG} {body : FS} {e : Env}
theorem cL_nil {k : Out → Rs β} : cL g body [] e h k = k (.nx e) := rfl
theorem cL_list {α : Type} {ys : List α} {c : α → PyData} {n : Bool} {k : Out → Rs β} {res : Rs β} (E : Nat → Env) (h0 : e = E 0) (ht : ∀ i y, ys[i]? = some y → (g (n, c y) (E i)).bind body = .ok (.nx (E (i + 1)))) (hk : k (.nx (E ys.length)) = res) :
    cL g body (wk n (ys.map c)) e h k = res := by
  subst h0
  refine (cL_ok (fLoop_at E _ fun i x hx => ?_)).trans (by unfold wk; rw [List.length_map, List.length_map]; exact hk)
  unfold wk at hx
  rw [List.getElem?_map, List.getElem?_map] at hx
  cases q : ys[i]? with
  | none => rw [q] at hx; cases hx
  | some y => rw [q] at hx; cases hx; exact ht i y q
/-- what each turn keeps -/
theorem fLoop_inv {α : Type} {ys : List α} {c : α → PyData} {n : Bool} (I : Nat → Env → Prop) (h0 : I 0 e) (ht : ∀ i y e, ys[i]? = some y → I i e → ∃ e', (g (n, c y) e).bind body = .ok (.nx e') ∧ I (i + 1) e') :
    ∃ e', I ys.length e' ∧ fLoop g body (wk n (ys.map c)) e = .ok (.nx e') := by
  have key : ∀ (zs : List α) (j : Nat) (e : Env), ys.drop j = zs → I j e → ∃ e', I (j + zs.length) e' ∧ fLoop g body (wk n (zs.map c)) e = .ok (.nx e') := by
    intro zs
    induction zs with
    | nil => exact fun j e _ hI => ⟨e, hI, rfl⟩
    | cons z zs ih =>
      intro j e hz hI
      have hj : ys[j]? = some z := by
        have := congrArg (fun l => l[0]?) hz
        simpa [List.getElem?_drop] using this
      obtain ⟨e1, h1, h2⟩ := ht j z e hj hI
      have hd : ys.drop (j + 1) = zs := by
        have := congrArg (List.drop 1) hz
        simpa [List.drop_drop, Nat.add_comm] using this
      obtain ⟨e2, h3, h4⟩ := ih (j + 1) e1 hd h2
      refine ⟨e2, by rw [List.length_cons, show j + (zs.length + 1) = j + 1 + zs.length by omega]; exact h3, ?_⟩
      show fLoop g body ((n, c z) :: wk n (zs.map c)) e = _
      rw [fLoop_cons, ← h4]
      cases q : g (n, c z) e with
      | bad => rw [q] at h1; cases h1
      | ex e y => rw [q] at h1; cases h1
      | ok e3 =>
        rw [q] at h1
        have h1 : body e3 = .ok (.nx e1) := h1
        show (body e3).bind _ = _
        rw [h1]; rfl
  simpa using key ys 0 e rfl h0
/-- a state that the slots hold -/
theorem cL_fold {α σ : Type} {ys : List α} {c : α → PyData} {n : Bool} {k : Out → Rs β} {res : Rs β} (E : σ → Env) (step : σ → α → σ) (s : σ) (I : σ → Prop) (h0 : e = E s) (hI : I s) (ht : ∀ s y, I s → y ∈ ys → (g (n, c y) (E s)).bind body = .ok (.nx (E (step s y))) ∧ I (step s y)) (hk : k (.nx (E (ys.foldl step s))) = res) :
    cL g body (wk n (ys.map c)) e h k = res := by
  subst h0
  have key : ∀ (zs : List α) (s : σ), I s → (∀ z ∈ zs, z ∈ ys) → fLoop g body (wk n (zs.map c)) (E s) = .ok (.nx (E (zs.foldl step s))) := by
    intro zs
    induction zs with
    | nil => intro s _ _; rfl
    | cons z zs ih =>
      intro s hs hz
      obtain ⟨h1, h2⟩ := ht s z hs (hz z List.mem_cons_self)
      have ih := ih (step s z) h2 fun y hy => hz y (List.mem_cons_of_mem _ hy)
      show fLoop g body ((n, c z) :: wk n (zs.map c)) (E s) = _
      rw [fLoop_cons, List.foldl_cons, ← ih]
      cases q : g (n, c z) (E s) with
      | bad => rw [q] at h1; cases h1
      | ex e y => rw [q] at h1; cases h1
      | ok e1 =>
        rw [q] at h1
        have h1 : body e1 = .ok (.nx (E (step s z))) := h1
        show (body e1).bind _ = _
        rw [h1]; rfl
  exact (cL_ok (key ys s hI fun _ h => h)).trans hk
end
/-- one item of a comprehension -/
def lcE (own : List Nat) (g : FG) (t : FT) (el : FV) (n : Bool) (d : PyData) (e : Env) : Rs (Env × Option Dv) :=
  cG g n d e (fun _ _ => .bad) fun e1 => cT t e1 (fun _ _ => .bad) fun b => ifK b (cV el e1 (fun _ _ => .bad) fun e2 m d' => cW own e2 fun e3 => .ok (e3, some (m, d'))) (cW own e1 fun e3 => .ok (e3, none))
theorem noex_on {α β : Type} (r : Rs α) (k : α → Rs β) : (noex r).bind k = on r (fun _ _ => .bad) k := by cases r <;> rfl
theorem on_comp {α β γ : Type} (r : Rs α) (k : α → Rs β) (q : β → Rs γ) : (on r (fun _ _ => .bad) k).bind q = on r (fun _ _ => .bad) fun a => (k a).bind q := by cases r <;> rfl
section
variable {own : List Nat} {g : FG} {t : FT} {el : FV} {e e0 e1 : Env}
theorem fLcL_step {x : Dv} {xs acc : List Dv} {o : Option Dv} (h : lcE own g t el x.1 x.2 e = .ok (e0, o)) (hz : acc.length < 1000000) : fLcL own g t el (x :: xs) e acc = fLcL own g t el xs e0 (acc ++ o.toList) := by
  obtain ⟨n, d⟩ := x
  show (noex (g (n, d) e)).bind _ = _
  unfold lcE cG at h
  dsimp only at h
  cases q1 : g (n, d) e with
  | bad => rw [q1] at h; cases h
  | ex e y => rw [q1] at h; cases h
  | ok e1 =>
    rw [q1] at h
    show (noex (t e1)).bind _ = _
    have h : cT t e1 (fun _ _ => .bad) (fun b => ifK b (cV el e1 (fun _ _ => .bad) fun e2 m d' => cW own e2 fun e3 => .ok (e3, some (m, d'))) (cW own e1 fun e3 => .ok (e3, none))) = .ok (e0, o) := h
    unfold cT at h
    cases q2 : t e1 with
    | bad => rw [q2] at h; cases h
    | ex e y => rw [q2] at h; cases h
    | ok b =>
      rw [q2] at h
      cases b with
      | true =>
        have h : cV el e1 (fun _ _ => .bad) (fun e2 m d' => cW own e2 fun e3 => .ok (e3, some (m, d'))) = .ok (e0, o) := h
        unfold cV at h
        show (noex (el e1)).bind _ = _
        cases q3 : el e1 with
        | bad => rw [q3] at h; cases h
        | ex e y => rw [q3] at h; cases h
        | ok p =>
          rw [q3] at h
          have h : (.ok (wipeE p.1 own, some (p.2.1, p.2.2)) : Rs (Env × Option Dv)) = .ok (e0, o) := h
          cases h
          show grd (decide (acc.length < 1000000)) _ = _
          rw [decide_eq_true hz]; rfl
      | false =>
        have h : (.ok (wipeE e1 own, none) : Rs (Env × Option Dv)) = .ok (e0, o) := h
        cases h
        show fLcL own g t el xs (wipeE e1 own) acc = _
        rw [show acc ++ (none : Option Dv).toList = acc from List.append_nil _]
theorem fLcL_all {φ : Dv → Option Dv} : ∀ (xs acc : List Dv), acc.length + xs.length ≤ 1000000 → (∀ x ∈ xs, lcE own g t el x.1 x.2 e = .ok (e, φ x)) → fLcL own g t el xs e acc = .ok (e, acc ++ xs.filterMap φ)
  | [], acc, _, _ => by simp [fLcL]
  | x :: xs, acc, hz, h => by
    rw [List.length_cons] at hz
    rw [fLcL_step (h x List.mem_cons_self) (by omega)]
    have : (acc ++ (φ x).toList).length + xs.length ≤ 1000000 := by
      cases φ x <;> simp <;> omega
    rw [fLcL_all xs _ this fun y hy => h y (List.mem_cons_of_mem _ hy), List.filterMap_cons]
    cases φ x <;> simp
theorem flags_const {α : Type} {m : Bool} {f : α → PyData} (xs : List α) : flags (xs.map fun x => (m, f x)) = (m || xs.isEmpty) := by
  cases m with
  | true => unfold flags; rw [List.all_map]; simp
  | false => cases xs <;> simp [flags]
theorem datas_const {α : Type} {m : Bool} {f : α → PyData} (xs : List α) : datas (xs.map fun x => (m, f x)) = xs.map f := by
  unfold datas; rw [List.map_map]; rfl
variable {β : Type} {h : HX β} {k : Env → R → Rs β}
theorem fLcL_typ {α γ : Type} {c : α → PyData} {n m : Bool} {c' : γ → PyData} {f : α → Option γ} : ∀ (ys : List α) (acc : List Dv), acc.length + ys.length ≤ 1000000 → (∀ y ∈ ys, lcE own g t el n (c y) e = .ok (e, (f y).map fun z => (m, c' z))) →
    fLcL own g t el (wk n (ys.map c)) e acc = .ok (e, acc ++ (ys.filterMap f).map fun z => (m, c' z))
  | [], acc, _, _ => by simp [fLcL, wk]
  | y :: ys, acc, hz, hx => by
    rw [List.length_cons] at hz
    rw [show wk n ((y :: ys).map c) = (n, c y) :: wk n (ys.map c) from rfl, fLcL_step (hx y List.mem_cons_self) (by omega)]
    have : (acc ++ ((f y).map fun z => (m, c' z)).toList).length + ys.length ≤ 1000000 := by
      cases f y <;> simp <;> omega
    rw [fLcL_typ ys _ this fun z hz => hx z (List.mem_cons_of_mem _ hz), List.filterMap_cons]
    cases f y <;> simp
/-- over a list of one kind -/
theorem cLc_t {α γ : Type} {ys : List α} {c : α → PyData} {n m : Bool} {c' : γ → PyData} {res : Rs β} (f : α → Option γ) (hz : ys.length ≤ 1000000) (hw : wipeE e own = e) (ho : okOwn e own = true) (hb : backE e e own = e)
    (hx : ∀ y ∈ ys, lcE own g t el n (c y) e = .ok (e, (f y).map fun z => (m, c' z))) (hk : k e (.nw (m || (ys.filterMap f).isEmpty) ((ys.filterMap f).map c')) = res) :
    cLc own g t el (wk n (ys.map c)) e h k = res := by
  have h2 := fLcL_typ ys [] (by simpa using hz) hx
  rw [← hw] at h2
  rw [cLc_ok (e2 := e) (by rw [hw] at h2 ⊢; exact h2) ho hb, List.nil_append, flags_const, datas_const]
  exact hk
/-- of each item one -/
theorem cLc_m {α γ : Type} {ys : List α} {c : α → PyData} {n : Bool} {c' : γ → PyData} {res : Rs β} (f : α → γ) (hz : ys.length ≤ 1000000) (hw : wipeE e own = e) (ho : okOwn e own = true) (hb : backE e e own = e)
    (hx : ∀ y ∈ ys, lcE own g t el n (c y) e = .ok (e, some (true, c' (f y)))) (hk : k e (.nw true ((ys.map f).map c')) = res) :
    cLc own g t el (wk n (ys.map c)) e h k = res := by
  refine cLc_t (m := true) (c' := c') (fun y => some (f y)) hz hw ho hb hx ?_
  rw [List.filterMap_eq_map']; exact hk
/-- those that are kept -/
theorem cLc_f {α : Type} {ys : List α} {c : α → PyData} {n : Bool} {γ : Type} {c' : γ → PyData} {res : Rs β} (p : α → Bool) (f : α → γ) (hz : ys.length ≤ 1000000) (hw : wipeE e own = e) (ho : okOwn e own = true) (hb : backE e e own = e)
    (hx : ∀ y ∈ ys, lcE own g t el n (c y) e = .ok (e, if p y = true then some (true, c' (f y)) else none)) (hk : k e (.nw true (((ys.filter p).map f).map c')) = res) :
    cLc own g t el (wk n (ys.map c)) e h k = res := by
  have hf : ys.filterMap (fun y => if p y = true then some (f y) else none) = (ys.filter p).map f := by
    clear hx hz hk
    induction ys with
    | nil => rfl
    | cons y ys ih =>
      rw [List.filterMap_cons, List.filter_cons, ih]
      cases p y <;> rfl
  refine cLc_t (m := true) (c' := c') (fun y => if p y = true then some (f y) else none) hz hw ho hb (fun y hy => by rw [hx y hy]; cases p y <;> rfl) ?_
  rw [hf]; exact hk
end
end Dn
namespace Dn
open PySem PySem.Spec L2
section
variable {β : Type} {h : HX β} {env : Env}
theorem cs_0 : ("road " : Str) = SX.S [114, 111, 97, 100, 32] := by decide +kernel
@[simp ↓ high] theorem csr_0 {k : Env → Bool → PyData → Rs β} : cV (rd (fC (.str "road "))) env h k = k env true (cS [114, 111, 97, 100, 32]) := by rw [cs_0]; rfl
@[simp ↓ high] theorem css_0 {k : Env → Bool → PyData → Rs β} : cV (st (fC (.str "road "))) env h k = k env true (cS [114, 111, 97, 100, 32]) := by rw [cs_0]; rfl
@[simp ↓ high] theorem cse_0 {k : Env → R → Rs β} : cE (fC (.str "road ")) env h k = k env (.sh true (cS [114, 111, 97, 100, 32])) := by rw [cs_0]; rfl
theorem cs_1 : (" " : Str) = SX.S [32] := by decide +kernel
@[simp ↓ high] theorem csr_1 {k : Env → Bool → PyData → Rs β} : cV (rd (fC (.str " "))) env h k = k env true (cS [32]) := by rw [cs_1]; rfl
@[simp ↓ high] theorem css_1 {k : Env → Bool → PyData → Rs β} : cV (st (fC (.str " "))) env h k = k env true (cS [32]) := by rw [cs_1]; rfl
@[simp ↓ high] theorem cse_1 {k : Env → R → Rs β} : cE (fC (.str " ")) env h k = k env (.sh true (cS [32])) := by rw [cs_1]; rfl
theorem cs_2 : ("\n" : Str) = SX.S [10] := by decide +kernel
@[simp ↓ high] theorem csr_2 {k : Env → Bool → PyData → Rs β} : cV (rd (fC (.str "\n"))) env h k = k env true (cS [10]) := by rw [cs_2]; rfl
@[simp ↓ high] theorem css_2 {k : Env → Bool → PyData → Rs β} : cV (st (fC (.str "\n"))) env h k = k env true (cS [10]) := by rw [cs_2]; rfl
@[simp ↓ high] theorem cse_2 {k : Env → R → Rs β} : cE (fC (.str "\n")) env h k = k env (.sh true (cS [10])) := by rw [cs_2]; rfl
theorem cs_3 : ("places " : Str) = SX.S [112, 108, 97, 99, 101, 115, 32] := by decide +kernel
@[simp ↓ high] theorem csr_3 {k : Env → Bool → PyData → Rs β} : cV (rd (fC (.str "places "))) env h k = k env true (cS [112, 108, 97, 99, 101, 115, 32]) := by rw [cs_3]; rfl
@[simp ↓ high] theorem css_3 {k : Env → Bool → PyData → Rs β} : cV (st (fC (.str "places "))) env h k = k env true (cS [112, 108, 97, 99, 101, 115, 32]) := by rw [cs_3]; rfl
@[simp ↓ high] theorem cse_3 {k : Env → R → Rs β} : cE (fC (.str "places ")) env h k = k env (.sh true (cS [112, 108, 97, 99, 101, 115, 32])) := by rw [cs_3]; rfl
theorem cs_4 : ("" : Str) = SX.S [] := by decide +kernel
@[simp ↓ high] theorem csr_4 {k : Env → Bool → PyData → Rs β} : cV (rd (fC (.str ""))) env h k = k env true (cS []) := by rw [cs_4]; rfl
@[simp ↓ high] theorem css_4 {k : Env → Bool → PyData → Rs β} : cV (st (fC (.str ""))) env h k = k env true (cS []) := by rw [cs_4]; rfl
@[simp ↓ high] theorem cse_4 {k : Env → R → Rs β} : cE (fC (.str "")) env h k = k env (.sh true (cS [])) := by rw [cs_4]; rfl
theorem cs_5 : ("places" : Str) = SX.S [112, 108, 97, 99, 101, 115] := by decide +kernel
@[simp ↓ high] theorem csr_5 {k : Env → Bool → PyData → Rs β} : cV (rd (fC (.str "places"))) env h k = k env true (cS [112, 108, 97, 99, 101, 115]) := by rw [cs_5]; rfl
@[simp ↓ high] theorem css_5 {k : Env → Bool → PyData → Rs β} : cV (st (fC (.str "places"))) env h k = k env true (cS [112, 108, 97, 99, 101, 115]) := by rw [cs_5]; rfl
@[simp ↓ high] theorem cse_5 {k : Env → R → Rs β} : cE (fC (.str "places")) env h k = k env (.sh true (cS [112, 108, 97, 99, 101, 115])) := by rw [cs_5]; rfl
theorem cs_6 : ("road" : Str) = SX.S [114, 111, 97, 100] := by decide +kernel
@[simp ↓ high] theorem csr_6 {k : Env → Bool → PyData → Rs β} : cV (rd (fC (.str "road"))) env h k = k env true (cS [114, 111, 97, 100]) := by rw [cs_6]; rfl
@[simp ↓ high] theorem css_6 {k : Env → Bool → PyData → Rs β} : cV (st (fC (.str "road"))) env h k = k env true (cS [114, 111, 97, 100]) := by rw [cs_6]; rfl
@[simp ↓ high] theorem cse_6 {k : Env → R → Rs β} : cE (fC (.str "road")) env h k = k env (.sh true (cS [114, 111, 97, 100])) := by rw [cs_6]; rfl
theorem cs_7 : ("abcdefghijklmnopqrstuvwxyz0123456789" : Str) = SX.S [97, 98, 99, 100, 101, 102, 103, 104, 105, 106, 107, 108, 109, 110, 111, 112, 113, 114, 115, 116, 117, 118, 119, 120, 121, 122, 48, 49, 50, 51, 52, 53, 54, 55, 56, 57] := by decide +kernel
@[simp ↓ high] theorem csr_7 {k : Env → Bool → PyData → Rs β} : cV (rd (fC (.str "abcdefghijklmnopqrstuvwxyz0123456789"))) env h k = k env true (cS [97, 98, 99, 100, 101, 102, 103, 104, 105, 106, 107, 108, 109, 110, 111, 112, 113, 114, 115, 116, 117, 118, 119, 120, 121, 122, 48, 49, 50, 51, 52, 53, 54, 55, 56, 57]) := by rw [cs_7]; rfl
@[simp ↓ high] theorem css_7 {k : Env → Bool → PyData → Rs β} : cV (st (fC (.str "abcdefghijklmnopqrstuvwxyz0123456789"))) env h k = k env true (cS [97, 98, 99, 100, 101, 102, 103, 104, 105, 106, 107, 108, 109, 110, 111, 112, 113, 114, 115, 116, 117, 118, 119, 120, 121, 122, 48, 49, 50, 51, 52, 53, 54, 55, 56, 57]) := by rw [cs_7]; rfl
@[simp ↓ high] theorem cse_7 {k : Env → R → Rs β} : cE (fC (.str "abcdefghijklmnopqrstuvwxyz0123456789")) env h k = k env (.sh true (cS [97, 98, 99, 100, 101, 102, 103, 104, 105, 106, 107, 108, 109, 110, 111, 112, 113, 114, 115, 116, 117, 118, 119, 120, 121, 122, 48, 49, 50, 51, 52, 53, 54, 55, 56, 57])) := by rw [cs_7]; rfl
theorem cs_8 : ("one" : Str) = SX.S [111, 110, 101] := by decide +kernel
@[simp ↓ high] theorem csr_8 {k : Env → Bool → PyData → Rs β} : cV (rd (fC (.str "one"))) env h k = k env true (cS [111, 110, 101]) := by rw [cs_8]; rfl
@[simp ↓ high] theorem css_8 {k : Env → Bool → PyData → Rs β} : cV (st (fC (.str "one"))) env h k = k env true (cS [111, 110, 101]) := by rw [cs_8]; rfl
@[simp ↓ high] theorem cse_8 {k : Env → R → Rs β} : cE (fC (.str "one")) env h k = k env (.sh true (cS [111, 110, 101])) := by rw [cs_8]; rfl
theorem cs_9 : ("all" : Str) = SX.S [97, 108, 108] := by decide +kernel
@[simp ↓ high] theorem csr_9 {k : Env → Bool → PyData → Rs β} : cV (rd (fC (.str "all"))) env h k = k env true (cS [97, 108, 108]) := by rw [cs_9]; rfl
@[simp ↓ high] theorem css_9 {k : Env → Bool → PyData → Rs β} : cV (st (fC (.str "all"))) env h k = k env true (cS [97, 108, 108]) := by rw [cs_9]; rfl
@[simp ↓ high] theorem cse_9 {k : Env → R → Rs β} : cE (fC (.str "all")) env h k = k env (.sh true (cS [97, 108, 108])) := by rw [cs_9]; rfl
theorem cs_10 : ("size" : Str) = SX.S [115, 105, 122, 101] := by decide +kernel
@[simp ↓ high] theorem csr_10 {k : Env → Bool → PyData → Rs β} : cV (rd (fC (.str "size"))) env h k = k env true (cS [115, 105, 122, 101]) := by rw [cs_10]; rfl
@[simp ↓ high] theorem css_10 {k : Env → Bool → PyData → Rs β} : cV (st (fC (.str "size"))) env h k = k env true (cS [115, 105, 122, 101]) := by rw [cs_10]; rfl
@[simp ↓ high] theorem cse_10 {k : Env → R → Rs β} : cE (fC (.str "size")) env h k = k env (.sh true (cS [115, 105, 122, 101])) := by rw [cs_10]; rfl
theorem cs_11 : ("other" : Str) = SX.S [111, 116, 104, 101, 114] := by decide +kernel
@[simp ↓ high] theorem csr_11 {k : Env → Bool → PyData → Rs β} : cV (rd (fC (.str "other"))) env h k = k env true (cS [111, 116, 104, 101, 114]) := by rw [cs_11]; rfl
@[simp ↓ high] theorem css_11 {k : Env → Bool → PyData → Rs β} : cV (st (fC (.str "other"))) env h k = k env true (cS [111, 116, 104, 101, 114]) := by rw [cs_11]; rfl
@[simp ↓ high] theorem cse_11 {k : Env → R → Rs β} : cE (fC (.str "other")) env h k = k env (.sh true (cS [111, 116, 104, 101, 114])) := by rw [cs_11]; rfl
theorem cs_12 : ("good" : Str) = SX.S [103, 111, 111, 100] := by decide +kernel
@[simp ↓ high] theorem csr_12 {k : Env → Bool → PyData → Rs β} : cV (rd (fC (.str "good"))) env h k = k env true (cS [103, 111, 111, 100]) := by rw [cs_12]; rfl
@[simp ↓ high] theorem css_12 {k : Env → Bool → PyData → Rs β} : cV (st (fC (.str "good"))) env h k = k env true (cS [103, 111, 111, 100]) := by rw [cs_12]; rfl
@[simp ↓ high] theorem cse_12 {k : Env → R → Rs β} : cE (fC (.str "good")) env h k = k env (.sh true (cS [103, 111, 111, 100])) := by rw [cs_12]; rfl
theorem cs_13 : ("1" : Str) = SX.S [49] := by decide +kernel
@[simp ↓ high] theorem csr_13 {k : Env → Bool → PyData → Rs β} : cV (rd (fC (.str "1"))) env h k = k env true (cS [49]) := by rw [cs_13]; rfl
@[simp ↓ high] theorem css_13 {k : Env → Bool → PyData → Rs β} : cV (st (fC (.str "1"))) env h k = k env true (cS [49]) := by rw [cs_13]; rfl
@[simp ↓ high] theorem cse_13 {k : Env → R → Rs β} : cE (fC (.str "1")) env h k = k env (.sh true (cS [49])) := by rw [cs_13]; rfl
theorem cs_14 : ("0" : Str) = SX.S [48] := by decide +kernel
@[simp ↓ high] theorem csr_14 {k : Env → Bool → PyData → Rs β} : cV (rd (fC (.str "0"))) env h k = k env true (cS [48]) := by rw [cs_14]; rfl
@[simp ↓ high] theorem css_14 {k : Env → Bool → PyData → Rs β} : cV (st (fC (.str "0"))) env h k = k env true (cS [48]) := by rw [cs_14]; rfl
@[simp ↓ high] theorem cse_14 {k : Env → R → Rs β} : cE (fC (.str "0")) env h k = k env (.sh true (cS [48])) := by rw [cs_14]; rfl
theorem cs_15 : ("Places" : Str) = SX.S [80, 108, 97, 99, 101, 115] := by decide +kernel
@[simp ↓ high] theorem csr_15 {k : Env → Bool → PyData → Rs β} : cV (rd (fC (.str "Places"))) env h k = k env true (cS [80, 108, 97, 99, 101, 115]) := by rw [cs_15]; rfl
@[simp ↓ high] theorem css_15 {k : Env → Bool → PyData → Rs β} : cV (st (fC (.str "Places"))) env h k = k env true (cS [80, 108, 97, 99, 101, 115]) := by rw [cs_15]; rfl
@[simp ↓ high] theorem cse_15 {k : Env → R → Rs β} : cE (fC (.str "Places")) env h k = k env (.sh true (cS [80, 108, 97, 99, 101, 115])) := by rw [cs_15]; rfl
theorem cs_16 : ("roads" : Str) = SX.S [114, 111, 97, 100, 115] := by decide +kernel
@[simp ↓ high] theorem csr_16 {k : Env → Bool → PyData → Rs β} : cV (rd (fC (.str "roads"))) env h k = k env true (cS [114, 111, 97, 100, 115]) := by rw [cs_16]; rfl
@[simp ↓ high] theorem css_16 {k : Env → Bool → PyData → Rs β} : cV (st (fC (.str "roads"))) env h k = k env true (cS [114, 111, 97, 100, 115]) := by rw [cs_16]; rfl
@[simp ↓ high] theorem cse_16 {k : Env → R → Rs β} : cE (fC (.str "roads")) env h k = k env (.sh true (cS [114, 111, 97, 100, 115])) := by rw [cs_16]; rfl
theorem cs_17 : ("x" : Str) = SX.S [120] := by decide +kernel
@[simp ↓ high] theorem csr_17 {k : Env → Bool → PyData → Rs β} : cV (rd (fC (.str "x"))) env h k = k env true (cS [120]) := by rw [cs_17]; rfl
@[simp ↓ high] theorem css_17 {k : Env → Bool → PyData → Rs β} : cV (st (fC (.str "x"))) env h k = k env true (cS [120]) := by rw [cs_17]; rfl
@[simp ↓ high] theorem cse_17 {k : Env → R → Rs β} : cE (fC (.str "x")) env h k = k env (.sh true (cS [120])) := by rw [cs_17]; rfl
theorem cs_18 : ("00" : Str) = SX.S [48, 48] := by decide +kernel
@[simp ↓ high] theorem csr_18 {k : Env → Bool → PyData → Rs β} : cV (rd (fC (.str "00"))) env h k = k env true (cS [48, 48]) := by rw [cs_18]; rfl
@[simp ↓ high] theorem css_18 {k : Env → Bool → PyData → Rs β} : cV (st (fC (.str "00"))) env h k = k env true (cS [48, 48]) := by rw [cs_18]; rfl
@[simp ↓ high] theorem cse_18 {k : Env → R → Rs β} : cE (fC (.str "00")) env h k = k env (.sh true (cS [48, 48])) := by rw [cs_18]; rfl
theorem cs_19 : ("01" : Str) = SX.S [48, 49] := by decide +kernel
@[simp ↓ high] theorem csr_19 {k : Env → Bool → PyData → Rs β} : cV (rd (fC (.str "01"))) env h k = k env true (cS [48, 49]) := by rw [cs_19]; rfl
@[simp ↓ high] theorem css_19 {k : Env → Bool → PyData → Rs β} : cV (st (fC (.str "01"))) env h k = k env true (cS [48, 49]) := by rw [cs_19]; rfl
@[simp ↓ high] theorem cse_19 {k : Env → R → Rs β} : cE (fC (.str "01")) env h k = k env (.sh true (cS [48, 49])) := by rw [cs_19]; rfl
theorem cs_20 : ("1000" : Str) = SX.S [49, 48, 48, 48] := by decide +kernel
@[simp ↓ high] theorem csr_20 {k : Env → Bool → PyData → Rs β} : cV (rd (fC (.str "1000"))) env h k = k env true (cS [49, 48, 48, 48]) := by rw [cs_20]; rfl
@[simp ↓ high] theorem css_20 {k : Env → Bool → PyData → Rs β} : cV (st (fC (.str "1000"))) env h k = k env true (cS [49, 48, 48, 48]) := by rw [cs_20]; rfl
@[simp ↓ high] theorem cse_20 {k : Env → R → Rs β} : cE (fC (.str "1000")) env h k = k env (.sh true (cS [49, 48, 48, 48])) := by rw [cs_20]; rfl
theorem cs_21 : ("+1" : Str) = SX.S [43, 49] := by decide +kernel
@[simp ↓ high] theorem csr_21 {k : Env → Bool → PyData → Rs β} : cV (rd (fC (.str "+1"))) env h k = k env true (cS [43, 49]) := by rw [cs_21]; rfl
@[simp ↓ high] theorem css_21 {k : Env → Bool → PyData → Rs β} : cV (st (fC (.str "+1"))) env h k = k env true (cS [43, 49]) := by rw [cs_21]; rfl
@[simp ↓ high] theorem cse_21 {k : Env → R → Rs β} : cE (fC (.str "+1")) env h k = k env (.sh true (cS [43, 49])) := by rw [cs_21]; rfl
theorem cs_22 : ("a" : Str) = SX.S [97] := by decide +kernel
@[simp ↓ high] theorem csr_22 {k : Env → Bool → PyData → Rs β} : cV (rd (fC (.str "a"))) env h k = k env true (cS [97]) := by rw [cs_22]; rfl
@[simp ↓ high] theorem css_22 {k : Env → Bool → PyData → Rs β} : cV (st (fC (.str "a"))) env h k = k env true (cS [97]) := by rw [cs_22]; rfl
@[simp ↓ high] theorem cse_22 {k : Env → R → Rs β} : cE (fC (.str "a")) env h k = k env (.sh true (cS [97])) := by rw [cs_22]; rfl
theorem cs_23 : ("1." : Str) = SX.S [49, 46] := by decide +kernel
@[simp ↓ high] theorem csr_23 {k : Env → Bool → PyData → Rs β} : cV (rd (fC (.str "1."))) env h k = k env true (cS [49, 46]) := by rw [cs_23]; rfl
@[simp ↓ high] theorem css_23 {k : Env → Bool → PyData → Rs β} : cV (st (fC (.str "1."))) env h k = k env true (cS [49, 46]) := by rw [cs_23]; rfl
@[simp ↓ high] theorem cse_23 {k : Env → R → Rs β} : cE (fC (.str "1.")) env h k = k env (.sh true (cS [49, 46])) := by rw [cs_23]; rfl
theorem cs_24 : ("-1" : Str) = SX.S [45, 49] := by decide +kernel
@[simp ↓ high] theorem csr_24 {k : Env → Bool → PyData → Rs β} : cV (rd (fC (.str "-1"))) env h k = k env true (cS [45, 49]) := by rw [cs_24]; rfl
@[simp ↓ high] theorem css_24 {k : Env → Bool → PyData → Rs β} : cV (st (fC (.str "-1"))) env h k = k env true (cS [45, 49]) := by rw [cs_24]; rfl
@[simp ↓ high] theorem cse_24 {k : Env → R → Rs β} : cE (fC (.str "-1")) env h k = k env (.sh true (cS [45, 49])) := by rw [cs_24]; rfl
theorem cs_25 : ("-" : Str) = SX.S [45] := by decide +kernel
@[simp ↓ high] theorem csr_25 {k : Env → Bool → PyData → Rs β} : cV (rd (fC (.str "-"))) env h k = k env true (cS [45]) := by rw [cs_25]; rfl
@[simp ↓ high] theorem css_25 {k : Env → Bool → PyData → Rs β} : cV (st (fC (.str "-"))) env h k = k env true (cS [45]) := by rw [cs_25]; rfl
@[simp ↓ high] theorem cse_25 {k : Env → R → Rs β} : cE (fC (.str "-")) env h k = k env (.sh true (cS [45])) := by rw [cs_25]; rfl
theorem cs_26 : ("1_0" : Str) = SX.S [49, 95, 48] := by decide +kernel
@[simp ↓ high] theorem csr_26 {k : Env → Bool → PyData → Rs β} : cV (rd (fC (.str "1_0"))) env h k = k env true (cS [49, 95, 48]) := by rw [cs_26]; rfl
@[simp ↓ high] theorem css_26 {k : Env → Bool → PyData → Rs β} : cV (st (fC (.str "1_0"))) env h k = k env true (cS [49, 95, 48]) := by rw [cs_26]; rfl
@[simp ↓ high] theorem cse_26 {k : Env → R → Rs β} : cE (fC (.str "1_0")) env h k = k env (.sh true (cS [49, 95, 48])) := by rw [cs_26]; rfl
theorem cs_27 : ("	7" : Str) = SX.S [9, 55] := by decide +kernel
@[simp ↓ high] theorem csr_27 {k : Env → Bool → PyData → Rs β} : cV (rd (fC (.str "	7"))) env h k = k env true (cS [9, 55]) := by rw [cs_27]; rfl
@[simp ↓ high] theorem css_27 {k : Env → Bool → PyData → Rs β} : cV (st (fC (.str "	7"))) env h k = k env true (cS [9, 55]) := by rw [cs_27]; rfl
@[simp ↓ high] theorem cse_27 {k : Env → R → Rs β} : cE (fC (.str "	7")) env h k = k env (.sh true (cS [9, 55])) := by rw [cs_27]; rfl
theorem cs_28 : ("7" : Str) = SX.S [55] := by decide +kernel
@[simp ↓ high] theorem csr_28 {k : Env → Bool → PyData → Rs β} : cV (rd (fC (.str "7"))) env h k = k env true (cS [55]) := by rw [cs_28]; rfl
@[simp ↓ high] theorem css_28 {k : Env → Bool → PyData → Rs β} : cV (st (fC (.str "7"))) env h k = k env true (cS [55]) := by rw [cs_28]; rfl
@[simp ↓ high] theorem cse_28 {k : Env → R → Rs β} : cE (fC (.str "7")) env h k = k env (.sh true (cS [55])) := by rw [cs_28]; rfl
theorem cs_29 : ("y" : Str) = SX.S [121] := by decide +kernel
@[simp ↓ high] theorem csr_29 {k : Env → Bool → PyData → Rs β} : cV (rd (fC (.str "y"))) env h k = k env true (cS [121]) := by rw [cs_29]; rfl
@[simp ↓ high] theorem css_29 {k : Env → Bool → PyData → Rs β} : cV (st (fC (.str "y"))) env h k = k env true (cS [121]) := by rw [cs_29]; rfl
@[simp ↓ high] theorem cse_29 {k : Env → R → Rs β} : cE (fC (.str "y")) env h k = k env (.sh true (cS [121])) := by rw [cs_29]; rfl
theorem cs_30 : ("A" : Str) = SX.S [65] := by decide +kernel
@[simp ↓ high] theorem csr_30 {k : Env → Bool → PyData → Rs β} : cV (rd (fC (.str "A"))) env h k = k env true (cS [65]) := by rw [cs_30]; rfl
@[simp ↓ high] theorem css_30 {k : Env → Bool → PyData → Rs β} : cV (st (fC (.str "A"))) env h k = k env true (cS [65]) := by rw [cs_30]; rfl
@[simp ↓ high] theorem cse_30 {k : Env → R → Rs β} : cE (fC (.str "A")) env h k = k env (.sh true (cS [65])) := by rw [cs_30]; rfl
theorem cs_31 : ("text" : Str) = SX.S [116, 101, 120, 116] := by decide +kernel
@[simp ↓ high] theorem csr_31 {k : Env → Bool → PyData → Rs β} : cV (rd (fC (.str "text"))) env h k = k env true (cS [116, 101, 120, 116]) := by rw [cs_31]; rfl
@[simp ↓ high] theorem css_31 {k : Env → Bool → PyData → Rs β} : cV (st (fC (.str "text"))) env h k = k env true (cS [116, 101, 120, 116]) := by rw [cs_31]; rfl
@[simp ↓ high] theorem cse_31 {k : Env → R → Rs β} : cE (fC (.str "text")) env h k = k env (.sh true (cS [116, 101, 120, 116])) := by rw [cs_31]; rfl
theorem cs_32 : ("\nroad 0 2 9\nroad 1 2 1\n" : Str) = SX.S [10, 114, 111, 97, 100, 32, 48, 32, 50, 32, 57, 10, 114, 111, 97, 100, 32, 49, 32, 50, 32, 49, 10] := by decide +kernel
@[simp ↓ high] theorem csr_32 {k : Env → Bool → PyData → Rs β} : cV (rd (fC (.str "\nroad 0 2 9\nroad 1 2 1\n"))) env h k = k env true (cS [10, 114, 111, 97, 100, 32, 48, 32, 50, 32, 57, 10, 114, 111, 97, 100, 32, 49, 32, 50, 32, 49, 10]) := by rw [cs_32]; rfl
@[simp ↓ high] theorem css_32 {k : Env → Bool → PyData → Rs β} : cV (st (fC (.str "\nroad 0 2 9\nroad 1 2 1\n"))) env h k = k env true (cS [10, 114, 111, 97, 100, 32, 48, 32, 50, 32, 57, 10, 114, 111, 97, 100, 32, 49, 32, 50, 32, 49, 10]) := by rw [cs_32]; rfl
@[simp ↓ high] theorem cse_32 {k : Env → R → Rs β} : cE (fC (.str "\nroad 0 2 9\nroad 1 2 1\n")) env h k = k env (.sh true (cS [10, 114, 111, 97, 100, 32, 48, 32, 50, 32, 57, 10, 114, 111, 97, 100, 32, 49, 32, 50, 32, 49, 10])) := by rw [cs_32]; rfl
theorem cs_33 : ("road 2 2 1" : Str) = SX.S [114, 111, 97, 100, 32, 50, 32, 50, 32, 49] := by decide +kernel
@[simp ↓ high] theorem csr_33 {k : Env → Bool → PyData → Rs β} : cV (rd (fC (.str "road 2 2 1"))) env h k = k env true (cS [114, 111, 97, 100, 32, 50, 32, 50, 32, 49]) := by rw [cs_33]; rfl
@[simp ↓ high] theorem css_33 {k : Env → Bool → PyData → Rs β} : cV (st (fC (.str "road 2 2 1"))) env h k = k env true (cS [114, 111, 97, 100, 32, 50, 32, 50, 32, 49]) := by rw [cs_33]; rfl
@[simp ↓ high] theorem cse_33 {k : Env → R → Rs β} : cE (fC (.str "road 2 2 1")) env h k = k env (.sh true (cS [114, 111, 97, 100, 32, 50, 32, 50, 32, 49])) := by rw [cs_33]; rfl
theorem cs_34 : ("road 3 2 1" : Str) = SX.S [114, 111, 97, 100, 32, 51, 32, 50, 32, 49] := by decide +kernel
@[simp ↓ high] theorem csr_34 {k : Env → Bool → PyData → Rs β} : cV (rd (fC (.str "road 3 2 1"))) env h k = k env true (cS [114, 111, 97, 100, 32, 51, 32, 50, 32, 49]) := by rw [cs_34]; rfl
@[simp ↓ high] theorem css_34 {k : Env → Bool → PyData → Rs β} : cV (st (fC (.str "road 3 2 1"))) env h k = k env true (cS [114, 111, 97, 100, 32, 51, 32, 50, 32, 49]) := by rw [cs_34]; rfl
@[simp ↓ high] theorem cse_34 {k : Env → R → Rs β} : cE (fC (.str "road 3 2 1")) env h k = k env (.sh true (cS [114, 111, 97, 100, 32, 51, 32, 50, 32, 49])) := by rw [cs_34]; rfl
theorem cs_35 : ("road 1 2 5" : Str) = SX.S [114, 111, 97, 100, 32, 49, 32, 50, 32, 53] := by decide +kernel
@[simp ↓ high] theorem csr_35 {k : Env → Bool → PyData → Rs β} : cV (rd (fC (.str "road 1 2 5"))) env h k = k env true (cS [114, 111, 97, 100, 32, 49, 32, 50, 32, 53]) := by rw [cs_35]; rfl
@[simp ↓ high] theorem css_35 {k : Env → Bool → PyData → Rs β} : cV (st (fC (.str "road 1 2 5"))) env h k = k env true (cS [114, 111, 97, 100, 32, 49, 32, 50, 32, 53]) := by rw [cs_35]; rfl
@[simp ↓ high] theorem cse_35 {k : Env → R → Rs β} : cE (fC (.str "road 1 2 5")) env h k = k env (.sh true (cS [114, 111, 97, 100, 32, 49, 32, 50, 32, 53])) := by rw [cs_35]; rfl
theorem cs_36 : ("road 0 6 5" : Str) = SX.S [114, 111, 97, 100, 32, 48, 32, 54, 32, 53] := by decide +kernel
@[simp ↓ high] theorem csr_36 {k : Env → Bool → PyData → Rs β} : cV (rd (fC (.str "road 0 6 5"))) env h k = k env true (cS [114, 111, 97, 100, 32, 48, 32, 54, 32, 53]) := by rw [cs_36]; rfl
@[simp ↓ high] theorem css_36 {k : Env → Bool → PyData → Rs β} : cV (st (fC (.str "road 0 6 5"))) env h k = k env true (cS [114, 111, 97, 100, 32, 48, 32, 54, 32, 53]) := by rw [cs_36]; rfl
@[simp ↓ high] theorem cse_36 {k : Env → R → Rs β} : cE (fC (.str "road 0 6 5")) env h k = k env (.sh true (cS [114, 111, 97, 100, 32, 48, 32, 54, 32, 53])) := by rw [cs_36]; rfl
theorem cs_37 : ("road 2 7 1" : Str) = SX.S [114, 111, 97, 100, 32, 50, 32, 55, 32, 49] := by decide +kernel
@[simp ↓ high] theorem csr_37 {k : Env → Bool → PyData → Rs β} : cV (rd (fC (.str "road 2 7 1"))) env h k = k env true (cS [114, 111, 97, 100, 32, 50, 32, 55, 32, 49]) := by rw [cs_37]; rfl
@[simp ↓ high] theorem css_37 {k : Env → Bool → PyData → Rs β} : cV (st (fC (.str "road 2 7 1"))) env h k = k env true (cS [114, 111, 97, 100, 32, 50, 32, 55, 32, 49]) := by rw [cs_37]; rfl
@[simp ↓ high] theorem cse_37 {k : Env → R → Rs β} : cE (fC (.str "road 2 7 1")) env h k = k env (.sh true (cS [114, 111, 97, 100, 32, 50, 32, 55, 32, 49])) := by rw [cs_37]; rfl
theorem cs_38 : ("road 2 3 0" : Str) = SX.S [114, 111, 97, 100, 32, 50, 32, 51, 32, 48] := by decide +kernel
@[simp ↓ high] theorem csr_38 {k : Env → Bool → PyData → Rs β} : cV (rd (fC (.str "road 2 3 0"))) env h k = k env true (cS [114, 111, 97, 100, 32, 50, 32, 51, 32, 48]) := by rw [cs_38]; rfl
@[simp ↓ high] theorem css_38 {k : Env → Bool → PyData → Rs β} : cV (st (fC (.str "road 2 3 0"))) env h k = k env true (cS [114, 111, 97, 100, 32, 50, 32, 51, 32, 48]) := by rw [cs_38]; rfl
@[simp ↓ high] theorem cse_38 {k : Env → R → Rs β} : cE (fC (.str "road 2 3 0")) env h k = k env (.sh true (cS [114, 111, 97, 100, 32, 50, 32, 51, 32, 48])) := by rw [cs_38]; rfl
theorem cs_39 : ("road 2 3 10" : Str) = SX.S [114, 111, 97, 100, 32, 50, 32, 51, 32, 49, 48] := by decide +kernel
@[simp ↓ high] theorem csr_39 {k : Env → Bool → PyData → Rs β} : cV (rd (fC (.str "road 2 3 10"))) env h k = k env true (cS [114, 111, 97, 100, 32, 50, 32, 51, 32, 49, 48]) := by rw [cs_39]; rfl
@[simp ↓ high] theorem css_39 {k : Env → Bool → PyData → Rs β} : cV (st (fC (.str "road 2 3 10"))) env h k = k env true (cS [114, 111, 97, 100, 32, 50, 32, 51, 32, 49, 48]) := by rw [cs_39]; rfl
@[simp ↓ high] theorem cse_39 {k : Env → R → Rs β} : cE (fC (.str "road 2 3 10")) env h k = k env (.sh true (cS [114, 111, 97, 100, 32, 50, 32, 51, 32, 49, 48])) := by rw [cs_39]; rfl
theorem cs_40 : ("road 0 1 " : Str) = SX.S [114, 111, 97, 100, 32, 48, 32, 49, 32] := by decide +kernel
@[simp ↓ high] theorem csr_40 {k : Env → Bool → PyData → Rs β} : cV (rd (fC (.str "road 0 1 "))) env h k = k env true (cS [114, 111, 97, 100, 32, 48, 32, 49, 32]) := by rw [cs_40]; rfl
@[simp ↓ high] theorem css_40 {k : Env → Bool → PyData → Rs β} : cV (st (fC (.str "road 0 1 "))) env h k = k env true (cS [114, 111, 97, 100, 32, 48, 32, 49, 32]) := by rw [cs_40]; rfl
@[simp ↓ high] theorem cse_40 {k : Env → R → Rs β} : cE (fC (.str "road 0 1 ")) env h k = k env (.sh true (cS [114, 111, 97, 100, 32, 48, 32, 49, 32])) := by rw [cs_40]; rfl
theorem cs_41 : ("places 1\n" : Str) = SX.S [112, 108, 97, 99, 101, 115, 32, 49, 10] := by decide +kernel
@[simp ↓ high] theorem csr_41 {k : Env → Bool → PyData → Rs β} : cV (rd (fC (.str "places 1\n"))) env h k = k env true (cS [112, 108, 97, 99, 101, 115, 32, 49, 10]) := by rw [cs_41]; rfl
@[simp ↓ high] theorem css_41 {k : Env → Bool → PyData → Rs β} : cV (st (fC (.str "places 1\n"))) env h k = k env true (cS [112, 108, 97, 99, 101, 115, 32, 49, 10]) := by rw [cs_41]; rfl
@[simp ↓ high] theorem cse_41 {k : Env → R → Rs β} : cE (fC (.str "places 1\n")) env h k = k env (.sh true (cS [112, 108, 97, 99, 101, 115, 32, 49, 10])) := by rw [cs_41]; rfl
theorem cs_42 : ("places 7\n" : Str) = SX.S [112, 108, 97, 99, 101, 115, 32, 55, 10] := by decide +kernel
@[simp ↓ high] theorem csr_42 {k : Env → Bool → PyData → Rs β} : cV (rd (fC (.str "places 7\n"))) env h k = k env true (cS [112, 108, 97, 99, 101, 115, 32, 55, 10]) := by rw [cs_42]; rfl
@[simp ↓ high] theorem css_42 {k : Env → Bool → PyData → Rs β} : cV (st (fC (.str "places 7\n"))) env h k = k env true (cS [112, 108, 97, 99, 101, 115, 32, 55, 10]) := by rw [cs_42]; rfl
@[simp ↓ high] theorem cse_42 {k : Env → R → Rs β} : cE (fC (.str "places 7\n")) env h k = k env (.sh true (cS [112, 108, 97, 99, 101, 115, 32, 55, 10])) := by rw [cs_42]; rfl
theorem cs_43 : ("places 0\n" : Str) = SX.S [112, 108, 97, 99, 101, 115, 32, 48, 10] := by decide +kernel
@[simp ↓ high] theorem csr_43 {k : Env → Bool → PyData → Rs β} : cV (rd (fC (.str "places 0\n"))) env h k = k env true (cS [112, 108, 97, 99, 101, 115, 32, 48, 10]) := by rw [cs_43]; rfl
@[simp ↓ high] theorem css_43 {k : Env → Bool → PyData → Rs β} : cV (st (fC (.str "places 0\n"))) env h k = k env true (cS [112, 108, 97, 99, 101, 115, 32, 48, 10]) := by rw [cs_43]; rfl
@[simp ↓ high] theorem cse_43 {k : Env → R → Rs β} : cE (fC (.str "places 0\n")) env h k = k env (.sh true (cS [112, 108, 97, 99, 101, 115, 32, 48, 10])) := by rw [cs_43]; rfl
theorem cs_44 : ("places 8\n" : Str) = SX.S [112, 108, 97, 99, 101, 115, 32, 56, 10] := by decide +kernel
@[simp ↓ high] theorem csr_44 {k : Env → Bool → PyData → Rs β} : cV (rd (fC (.str "places 8\n"))) env h k = k env true (cS [112, 108, 97, 99, 101, 115, 32, 56, 10]) := by rw [cs_44]; rfl
@[simp ↓ high] theorem css_44 {k : Env → Bool → PyData → Rs β} : cV (st (fC (.str "places 8\n"))) env h k = k env true (cS [112, 108, 97, 99, 101, 115, 32, 56, 10]) := by rw [cs_44]; rfl
@[simp ↓ high] theorem cse_44 {k : Env → R → Rs β} : cE (fC (.str "places 8\n")) env h k = k env (.sh true (cS [112, 108, 97, 99, 101, 115, 32, 56, 10])) := by rw [cs_44]; rfl
theorem cs_45 : ("road 2 3 " : Str) = SX.S [114, 111, 97, 100, 32, 50, 32, 51, 32] := by decide +kernel
@[simp ↓ high] theorem csr_45 {k : Env → Bool → PyData → Rs β} : cV (rd (fC (.str "road 2 3 "))) env h k = k env true (cS [114, 111, 97, 100, 32, 50, 32, 51, 32]) := by rw [cs_45]; rfl
@[simp ↓ high] theorem css_45 {k : Env → Bool → PyData → Rs β} : cV (st (fC (.str "road 2 3 "))) env h k = k env true (cS [114, 111, 97, 100, 32, 50, 32, 51, 32]) := by rw [cs_45]; rfl
@[simp ↓ high] theorem cse_45 {k : Env → R → Rs β} : cE (fC (.str "road 2 3 ")) env h k = k env (.sh true (cS [114, 111, 97, 100, 32, 50, 32, 51, 32])) := by rw [cs_45]; rfl
theorem cs_46 : ("places 8\nroad 9 9 9\n" : Str) = SX.S [112, 108, 97, 99, 101, 115, 32, 56, 10, 114, 111, 97, 100, 32, 57, 32, 57, 32, 57, 10] := by decide +kernel
@[simp ↓ high] theorem csr_46 {k : Env → Bool → PyData → Rs β} : cV (rd (fC (.str "places 8\nroad 9 9 9\n"))) env h k = k env true (cS [112, 108, 97, 99, 101, 115, 32, 56, 10, 114, 111, 97, 100, 32, 57, 32, 57, 32, 57, 10]) := by rw [cs_46]; rfl
@[simp ↓ high] theorem css_46 {k : Env → Bool → PyData → Rs β} : cV (st (fC (.str "places 8\nroad 9 9 9\n"))) env h k = k env true (cS [112, 108, 97, 99, 101, 115, 32, 56, 10, 114, 111, 97, 100, 32, 57, 32, 57, 32, 57, 10]) := by rw [cs_46]; rfl
@[simp ↓ high] theorem cse_46 {k : Env → R → Rs β} : cE (fC (.str "places 8\nroad 9 9 9\n")) env h k = k env (.sh true (cS [112, 108, 97, 99, 101, 115, 32, 56, 10, 114, 111, 97, 100, 32, 57, 32, 57, 32, 57, 10])) := by rw [cs_46]; rfl
theorem cs_47 : ("places 8\nroad 0 1\n" : Str) = SX.S [112, 108, 97, 99, 101, 115, 32, 56, 10, 114, 111, 97, 100, 32, 48, 32, 49, 10] := by decide +kernel
@[simp ↓ high] theorem csr_47 {k : Env → Bool → PyData → Rs β} : cV (rd (fC (.str "places 8\nroad 0 1\n"))) env h k = k env true (cS [112, 108, 97, 99, 101, 115, 32, 56, 10, 114, 111, 97, 100, 32, 48, 32, 49, 10]) := by rw [cs_47]; rfl
@[simp ↓ high] theorem css_47 {k : Env → Bool → PyData → Rs β} : cV (st (fC (.str "places 8\nroad 0 1\n"))) env h k = k env true (cS [112, 108, 97, 99, 101, 115, 32, 56, 10, 114, 111, 97, 100, 32, 48, 32, 49, 10]) := by rw [cs_47]; rfl
@[simp ↓ high] theorem cse_47 {k : Env → R → Rs β} : cE (fC (.str "places 8\nroad 0 1\n")) env h k = k env (.sh true (cS [112, 108, 97, 99, 101, 115, 32, 56, 10, 114, 111, 97, 100, 32, 48, 32, 49, 10])) := by rw [cs_47]; rfl
theorem cs_48 : ("places 2\nroad 0 1 10\nx\n" : Str) = SX.S [112, 108, 97, 99, 101, 115, 32, 50, 10, 114, 111, 97, 100, 32, 48, 32, 49, 32, 49, 48, 10, 120, 10] := by decide +kernel
@[simp ↓ high] theorem csr_48 {k : Env → Bool → PyData → Rs β} : cV (rd (fC (.str "places 2\nroad 0 1 10\nx\n"))) env h k = k env true (cS [112, 108, 97, 99, 101, 115, 32, 50, 10, 114, 111, 97, 100, 32, 48, 32, 49, 32, 49, 48, 10, 120, 10]) := by rw [cs_48]; rfl
@[simp ↓ high] theorem css_48 {k : Env → Bool → PyData → Rs β} : cV (st (fC (.str "places 2\nroad 0 1 10\nx\n"))) env h k = k env true (cS [112, 108, 97, 99, 101, 115, 32, 50, 10, 114, 111, 97, 100, 32, 48, 32, 49, 32, 49, 48, 10, 120, 10]) := by rw [cs_48]; rfl
@[simp ↓ high] theorem cse_48 {k : Env → R → Rs β} : cE (fC (.str "places 2\nroad 0 1 10\nx\n")) env h k = k env (.sh true (cS [112, 108, 97, 99, 101, 115, 32, 50, 10, 114, 111, 97, 100, 32, 48, 32, 49, 32, 49, 48, 10, 120, 10])) := by rw [cs_48]; rfl
theorem cs_49 : ("places 7\nroad 1 2 1\nroad 0 1 1\n" : Str) = SX.S [112, 108, 97, 99, 101, 115, 32, 55, 10, 114, 111, 97, 100, 32, 49, 32, 50, 32, 49, 10, 114, 111, 97, 100, 32, 48, 32, 49, 32, 49, 10] := by decide +kernel
@[simp ↓ high] theorem csr_49 {k : Env → Bool → PyData → Rs β} : cV (rd (fC (.str "places 7\nroad 1 2 1\nroad 0 1 1\n"))) env h k = k env true (cS [112, 108, 97, 99, 101, 115, 32, 55, 10, 114, 111, 97, 100, 32, 49, 32, 50, 32, 49, 10, 114, 111, 97, 100, 32, 48, 32, 49, 32, 49, 10]) := by rw [cs_49]; rfl
@[simp ↓ high] theorem css_49 {k : Env → Bool → PyData → Rs β} : cV (st (fC (.str "places 7\nroad 1 2 1\nroad 0 1 1\n"))) env h k = k env true (cS [112, 108, 97, 99, 101, 115, 32, 55, 10, 114, 111, 97, 100, 32, 49, 32, 50, 32, 49, 10, 114, 111, 97, 100, 32, 48, 32, 49, 32, 49, 10]) := by rw [cs_49]; rfl
@[simp ↓ high] theorem cse_49 {k : Env → R → Rs β} : cE (fC (.str "places 7\nroad 1 2 1\nroad 0 1 1\n")) env h k = k env (.sh true (cS [112, 108, 97, 99, 101, 115, 32, 55, 10, 114, 111, 97, 100, 32, 49, 32, 50, 32, 49, 10, 114, 111, 97, 100, 32, 48, 32, 49, 32, 49, 10])) := by rw [cs_49]; rfl
theorem cs_50 : ("places 7\nroad 0 1 1\nroad 0 1 2\n" : Str) = SX.S [112, 108, 97, 99, 101, 115, 32, 55, 10, 114, 111, 97, 100, 32, 48, 32, 49, 32, 49, 10, 114, 111, 97, 100, 32, 48, 32, 49, 32, 50, 10] := by decide +kernel
@[simp ↓ high] theorem csr_50 {k : Env → Bool → PyData → Rs β} : cV (rd (fC (.str "places 7\nroad 0 1 1\nroad 0 1 2\n"))) env h k = k env true (cS [112, 108, 97, 99, 101, 115, 32, 55, 10, 114, 111, 97, 100, 32, 48, 32, 49, 32, 49, 10, 114, 111, 97, 100, 32, 48, 32, 49, 32, 50, 10]) := by rw [cs_50]; rfl
@[simp ↓ high] theorem css_50 {k : Env → Bool → PyData → Rs β} : cV (st (fC (.str "places 7\nroad 0 1 1\nroad 0 1 2\n"))) env h k = k env true (cS [112, 108, 97, 99, 101, 115, 32, 55, 10, 114, 111, 97, 100, 32, 48, 32, 49, 32, 49, 10, 114, 111, 97, 100, 32, 48, 32, 49, 32, 50, 10]) := by rw [cs_50]; rfl
@[simp ↓ high] theorem cse_50 {k : Env → R → Rs β} : cE (fC (.str "places 7\nroad 0 1 1\nroad 0 1 2\n")) env h k = k env (.sh true (cS [112, 108, 97, 99, 101, 115, 32, 55, 10, 114, 111, 97, 100, 32, 48, 32, 49, 32, 49, 10, 114, 111, 97, 100, 32, 48, 32, 49, 32, 50, 10])) := by rw [cs_50]; rfl
theorem cs_51 : ("places 7\nroad 6 7 1\n" : Str) = SX.S [112, 108, 97, 99, 101, 115, 32, 55, 10, 114, 111, 97, 100, 32, 54, 32, 55, 32, 49, 10] := by decide +kernel
@[simp ↓ high] theorem csr_51 {k : Env → Bool → PyData → Rs β} : cV (rd (fC (.str "places 7\nroad 6 7 1\n"))) env h k = k env true (cS [112, 108, 97, 99, 101, 115, 32, 55, 10, 114, 111, 97, 100, 32, 54, 32, 55, 32, 49, 10]) := by rw [cs_51]; rfl
@[simp ↓ high] theorem css_51 {k : Env → Bool → PyData → Rs β} : cV (st (fC (.str "places 7\nroad 6 7 1\n"))) env h k = k env true (cS [112, 108, 97, 99, 101, 115, 32, 55, 10, 114, 111, 97, 100, 32, 54, 32, 55, 32, 49, 10]) := by rw [cs_51]; rfl
@[simp ↓ high] theorem cse_51 {k : Env → R → Rs β} : cE (fC (.str "places 7\nroad 6 7 1\n")) env h k = k env (.sh true (cS [112, 108, 97, 99, 101, 115, 32, 55, 10, 114, 111, 97, 100, 32, 54, 32, 55, 32, 49, 10])) := by rw [cs_51]; rfl
theorem cs_52 : ("places 3\n" : Str) = SX.S [112, 108, 97, 99, 101, 115, 32, 51, 10] := by decide +kernel
@[simp ↓ high] theorem csr_52 {k : Env → Bool → PyData → Rs β} : cV (rd (fC (.str "places 3\n"))) env h k = k env true (cS [112, 108, 97, 99, 101, 115, 32, 51, 10]) := by rw [cs_52]; rfl
@[simp ↓ high] theorem css_52 {k : Env → Bool → PyData → Rs β} : cV (st (fC (.str "places 3\n"))) env h k = k env true (cS [112, 108, 97, 99, 101, 115, 32, 51, 10]) := by rw [cs_52]; rfl
@[simp ↓ high] theorem cse_52 {k : Env → R → Rs β} : cE (fC (.str "places 3\n")) env h k = k env (.sh true (cS [112, 108, 97, 99, 101, 115, 32, 51, 10])) := by rw [cs_52]; rfl
theorem cs_53 : ("places 2\n" : Str) = SX.S [112, 108, 97, 99, 101, 115, 32, 50, 10] := by decide +kernel
@[simp ↓ high] theorem csr_53 {k : Env → Bool → PyData → Rs β} : cV (rd (fC (.str "places 2\n"))) env h k = k env true (cS [112, 108, 97, 99, 101, 115, 32, 50, 10]) := by rw [cs_53]; rfl
@[simp ↓ high] theorem css_53 {k : Env → Bool → PyData → Rs β} : cV (st (fC (.str "places 2\n"))) env h k = k env true (cS [112, 108, 97, 99, 101, 115, 32, 50, 10]) := by rw [cs_53]; rfl
@[simp ↓ high] theorem cse_53 {k : Env → R → Rs β} : cE (fC (.str "places 2\n")) env h k = k env (.sh true (cS [112, 108, 97, 99, 101, 115, 32, 50, 10])) := by rw [cs_53]; rfl
theorem cs_54 : ("road 5 6 9\n" : Str) = SX.S [114, 111, 97, 100, 32, 53, 32, 54, 32, 57, 10] := by decide +kernel
@[simp ↓ high] theorem csr_54 {k : Env → Bool → PyData → Rs β} : cV (rd (fC (.str "road 5 6 9\n"))) env h k = k env true (cS [114, 111, 97, 100, 32, 53, 32, 54, 32, 57, 10]) := by rw [cs_54]; rfl
@[simp ↓ high] theorem css_54 {k : Env → Bool → PyData → Rs β} : cV (st (fC (.str "road 5 6 9\n"))) env h k = k env true (cS [114, 111, 97, 100, 32, 53, 32, 54, 32, 57, 10]) := by rw [cs_54]; rfl
@[simp ↓ high] theorem cse_54 {k : Env → R → Rs β} : cE (fC (.str "road 5 6 9\n")) env h k = k env (.sh true (cS [114, 111, 97, 100, 32, 53, 32, 54, 32, 57, 10])) := by rw [cs_54]; rfl
theorem cs_55 : ("\nroad 9 9 9\n" : Str) = SX.S [10, 114, 111, 97, 100, 32, 57, 32, 57, 32, 57, 10] := by decide +kernel
@[simp ↓ high] theorem csr_55 {k : Env → Bool → PyData → Rs β} : cV (rd (fC (.str "\nroad 9 9 9\n"))) env h k = k env true (cS [10, 114, 111, 97, 100, 32, 57, 32, 57, 32, 57, 10]) := by rw [cs_55]; rfl
@[simp ↓ high] theorem css_55 {k : Env → Bool → PyData → Rs β} : cV (st (fC (.str "\nroad 9 9 9\n"))) env h k = k env true (cS [10, 114, 111, 97, 100, 32, 57, 32, 57, 32, 57, 10]) := by rw [cs_55]; rfl
@[simp ↓ high] theorem cse_55 {k : Env → R → Rs β} : cE (fC (.str "\nroad 9 9 9\n")) env h k = k env (.sh true (cS [10, 114, 111, 97, 100, 32, 57, 32, 57, 32, 57, 10])) := by rw [cs_55]; rfl
theorem cs_56 : ("calls" : Str) = SX.S [99, 97, 108, 108, 115] := by decide +kernel
@[simp ↓ high] theorem csr_56 {k : Env → Bool → PyData → Rs β} : cV (rd (fC (.str "calls"))) env h k = k env true (cS [99, 97, 108, 108, 115]) := by rw [cs_56]; rfl
@[simp ↓ high] theorem css_56 {k : Env → Bool → PyData → Rs β} : cV (st (fC (.str "calls"))) env h k = k env true (cS [99, 97, 108, 108, 115]) := by rw [cs_56]; rfl
@[simp ↓ high] theorem cse_56 {k : Env → R → Rs β} : cE (fC (.str "calls")) env h k = k env (.sh true (cS [99, 97, 108, 108, 115])) := by rw [cs_56]; rfl
theorem cs_57 : ("way " : Str) = SX.S [119, 97, 121, 32] := by decide +kernel
@[simp ↓ high] theorem csr_57 {k : Env → Bool → PyData → Rs β} : cV (rd (fC (.str "way "))) env h k = k env true (cS [119, 97, 121, 32]) := by rw [cs_57]; rfl
@[simp ↓ high] theorem css_57 {k : Env → Bool → PyData → Rs β} : cV (st (fC (.str "way "))) env h k = k env true (cS [119, 97, 121, 32]) := by rw [cs_57]; rfl
@[simp ↓ high] theorem cse_57 {k : Env → R → Rs β} : cE (fC (.str "way ")) env h k = k env (.sh true (cS [119, 97, 121, 32])) := by rw [cs_57]; rfl
theorem cs_58 : ("call " : Str) = SX.S [99, 97, 108, 108, 32] := by decide +kernel
@[simp ↓ high] theorem csr_58 {k : Env → Bool → PyData → Rs β} : cV (rd (fC (.str "call "))) env h k = k env true (cS [99, 97, 108, 108, 32]) := by rw [cs_58]; rfl
@[simp ↓ high] theorem css_58 {k : Env → Bool → PyData → Rs β} : cV (st (fC (.str "call "))) env h k = k env true (cS [99, 97, 108, 108, 32]) := by rw [cs_58]; rfl
@[simp ↓ high] theorem cse_58 {k : Env → R → Rs β} : cE (fC (.str "call ")) env h k = k env (.sh true (cS [99, 97, 108, 108, 32])) := by rw [cs_58]; rfl
theorem cs_59 : (" from " : Str) = SX.S [32, 102, 114, 111, 109, 32] := by decide +kernel
@[simp ↓ high] theorem csr_59 {k : Env → Bool → PyData → Rs β} : cV (rd (fC (.str " from "))) env h k = k env true (cS [32, 102, 114, 111, 109, 32]) := by rw [cs_59]; rfl
@[simp ↓ high] theorem css_59 {k : Env → Bool → PyData → Rs β} : cV (st (fC (.str " from "))) env h k = k env true (cS [32, 102, 114, 111, 109, 32]) := by rw [cs_59]; rfl
@[simp ↓ high] theorem cse_59 {k : Env → R → Rs β} : cE (fC (.str " from ")) env h k = k env (.sh true (cS [32, 102, 114, 111, 109, 32])) := by rw [cs_59]; rfl
theorem cs_60 : (" to " : Str) = SX.S [32, 116, 111, 32] := by decide +kernel
@[simp ↓ high] theorem csr_60 {k : Env → Bool → PyData → Rs β} : cV (rd (fC (.str " to "))) env h k = k env true (cS [32, 116, 111, 32]) := by rw [cs_60]; rfl
@[simp ↓ high] theorem css_60 {k : Env → Bool → PyData → Rs β} : cV (st (fC (.str " to "))) env h k = k env true (cS [32, 116, 111, 32]) := by rw [cs_60]; rfl
@[simp ↓ high] theorem cse_60 {k : Env → R → Rs β} : cE (fC (.str " to ")) env h k = k env (.sh true (cS [32, 116, 111, 32])) := by rw [cs_60]; rfl
theorem cs_61 : (" way " : Str) = SX.S [32, 119, 97, 121, 32] := by decide +kernel
@[simp ↓ high] theorem csr_61 {k : Env → Bool → PyData → Rs β} : cV (rd (fC (.str " way "))) env h k = k env true (cS [32, 119, 97, 121, 32]) := by rw [cs_61]; rfl
@[simp ↓ high] theorem css_61 {k : Env → Bool → PyData → Rs β} : cV (st (fC (.str " way "))) env h k = k env true (cS [32, 119, 97, 121, 32]) := by rw [cs_61]; rfl
@[simp ↓ high] theorem cse_61 {k : Env → R → Rs β} : cE (fC (.str " way ")) env h k = k env (.sh true (cS [32, 119, 97, 121, 32])) := by rw [cs_61]; rfl
theorem cs_62 : ("call" : Str) = SX.S [99, 97, 108, 108] := by decide +kernel
@[simp ↓ high] theorem csr_62 {k : Env → Bool → PyData → Rs β} : cV (rd (fC (.str "call"))) env h k = k env true (cS [99, 97, 108, 108]) := by rw [cs_62]; rfl
@[simp ↓ high] theorem css_62 {k : Env → Bool → PyData → Rs β} : cV (st (fC (.str "call"))) env h k = k env true (cS [99, 97, 108, 108]) := by rw [cs_62]; rfl
@[simp ↓ high] theorem cse_62 {k : Env → R → Rs β} : cE (fC (.str "call")) env h k = k env (.sh true (cS [99, 97, 108, 108])) := by rw [cs_62]; rfl
theorem cs_63 : ("+2" : Str) = SX.S [43, 50] := by decide +kernel
@[simp ↓ high] theorem csr_63 {k : Env → Bool → PyData → Rs β} : cV (rd (fC (.str "+2"))) env h k = k env true (cS [43, 50]) := by rw [cs_63]; rfl
@[simp ↓ high] theorem css_63 {k : Env → Bool → PyData → Rs β} : cV (st (fC (.str "+2"))) env h k = k env true (cS [43, 50]) := by rw [cs_63]; rfl
@[simp ↓ high] theorem cse_63 {k : Env → R → Rs β} : cE (fC (.str "+2")) env h k = k env (.sh true (cS [43, 50])) := by rw [cs_63]; rfl
theorem cs_64 : ("calls\n" : Str) = SX.S [99, 97, 108, 108, 115, 10] := by decide +kernel
@[simp ↓ high] theorem csr_64 {k : Env → Bool → PyData → Rs β} : cV (rd (fC (.str "calls\n"))) env h k = k env true (cS [99, 97, 108, 108, 115, 10]) := by rw [cs_64]; rfl
@[simp ↓ high] theorem css_64 {k : Env → Bool → PyData → Rs β} : cV (st (fC (.str "calls\n"))) env h k = k env true (cS [99, 97, 108, 108, 115, 10]) := by rw [cs_64]; rfl
@[simp ↓ high] theorem cse_64 {k : Env → R → Rs β} : cE (fC (.str "calls\n")) env h k = k env (.sh true (cS [99, 97, 108, 108, 115, 10])) := by rw [cs_64]; rfl
theorem cs_65 : ("calls 0" : Str) = SX.S [99, 97, 108, 108, 115, 32, 48] := by decide +kernel
@[simp ↓ high] theorem csr_65 {k : Env → Bool → PyData → Rs β} : cV (rd (fC (.str "calls 0"))) env h k = k env true (cS [99, 97, 108, 108, 115, 32, 48]) := by rw [cs_65]; rfl
@[simp ↓ high] theorem css_65 {k : Env → Bool → PyData → Rs β} : cV (st (fC (.str "calls 0"))) env h k = k env true (cS [99, 97, 108, 108, 115, 32, 48]) := by rw [cs_65]; rfl
@[simp ↓ high] theorem cse_65 {k : Env → R → Rs β} : cE (fC (.str "calls 0")) env h k = k env (.sh true (cS [99, 97, 108, 108, 115, 32, 48])) := by rw [cs_65]; rfl
theorem cs_66 : ("Calls" : Str) = SX.S [67, 97, 108, 108, 115] := by decide +kernel
@[simp ↓ high] theorem csr_66 {k : Env → Bool → PyData → Rs β} : cV (rd (fC (.str "Calls"))) env h k = k env true (cS [67, 97, 108, 108, 115]) := by rw [cs_66]; rfl
@[simp ↓ high] theorem css_66 {k : Env → Bool → PyData → Rs β} : cV (st (fC (.str "Calls"))) env h k = k env true (cS [67, 97, 108, 108, 115]) := by rw [cs_66]; rfl
@[simp ↓ high] theorem cse_66 {k : Env → R → Rs β} : cE (fC (.str "Calls")) env h k = k env (.sh true (cS [67, 97, 108, 108, 115])) := by rw [cs_66]; rfl
theorem cs_67 : ("way" : Str) = SX.S [119, 97, 121] := by decide +kernel
@[simp ↓ high] theorem csr_67 {k : Env → Bool → PyData → Rs β} : cV (rd (fC (.str "way"))) env h k = k env true (cS [119, 97, 121]) := by rw [cs_67]; rfl
@[simp ↓ high] theorem css_67 {k : Env → Bool → PyData → Rs β} : cV (st (fC (.str "way"))) env h k = k env true (cS [119, 97, 121]) := by rw [cs_67]; rfl
@[simp ↓ high] theorem cse_67 {k : Env → R → Rs β} : cE (fC (.str "way")) env h k = k env (.sh true (cS [119, 97, 121])) := by rw [cs_67]; rfl
theorem cs_68 : ("to" : Str) = SX.S [116, 111] := by decide +kernel
@[simp ↓ high] theorem csr_68 {k : Env → Bool → PyData → Rs β} : cV (rd (fC (.str "to"))) env h k = k env true (cS [116, 111]) := by rw [cs_68]; rfl
@[simp ↓ high] theorem css_68 {k : Env → Bool → PyData → Rs β} : cV (st (fC (.str "to"))) env h k = k env true (cS [116, 111]) := by rw [cs_68]; rfl
@[simp ↓ high] theorem cse_68 {k : Env → R → Rs β} : cE (fC (.str "to")) env h k = k env (.sh true (cS [116, 111])) := by rw [cs_68]; rfl
theorem cs_69 : ("from" : Str) = SX.S [102, 114, 111, 109] := by decide +kernel
@[simp ↓ high] theorem csr_69 {k : Env → Bool → PyData → Rs β} : cV (rd (fC (.str "from"))) env h k = k env true (cS [102, 114, 111, 109]) := by rw [cs_69]; rfl
@[simp ↓ high] theorem css_69 {k : Env → Bool → PyData → Rs β} : cV (st (fC (.str "from"))) env h k = k env true (cS [102, 114, 111, 109]) := by rw [cs_69]; rfl
@[simp ↓ high] theorem cse_69 {k : Env → R → Rs β} : cE (fC (.str "from")) env h k = k env (.sh true (cS [102, 114, 111, 109])) := by rw [cs_69]; rfl
end
end Dn
namespace Dn
open PySem PySem.Spec L2
theorem num_len : ∀ n : Nat, n < 1000 → (numC (n : Int)).length ≤ 3 := by
  intro n hn
  have key : ∀ k : Fin 1000, (numC ((k : Nat) : Int)).length ≤ 3 := by decide +kernel
  exact key ⟨n, hn⟩
theorem numC_len {i : Int} (h : 0 ≤ i ∧ i < 1000) : (numC i).length ≤ 3 := by
  have := num_len i.toNat (by omega)
  rwa [show ((i.toNat : Nat) : Int) = i by omega] at this
structure RpOk (d : PyData) (dep len : Nat) : Prop where
  lay : PyData.canLay0 d = true
  sh : PyData.showable d = true
  dp : d.depth ≤ dep
  len : d.shown.length ≤ len
theorem RpOk.ok {d : PyData} {dep len : Nat} (h : RpOk d dep len) (h1 : dep ≤ 60) (h2 : len ≤ 1000000) : reprOk d = true := by
  unfold reprOk
  rw [h.lay, h.sh, decide_eq_true (Nat.le_trans h.dp h1), decide_eq_true (Nat.le_trans h.len h2)]; rfl
theorem RpOk.int {i : Int} (h : 0 ≤ i ∧ i < 1000) : RpOk (.int i) 0 3 := by
  refine ⟨rfl, ?_, Nat.le_refl _, ?_⟩
  · unfold PyData.showable
    refine decide_eq_true ?_
    have : i.natAbs < 1024 := by omega
    by_cases z : i.natAbs = 0
    · rw [z]; decide
    · have := (Nat.log2_lt z).mpr (show i.natAbs < 2 ^ 10 by omega); omega
  · have := numC_len h
    unfold PyData.shown
    rw [num_str, SX.S_len]; exact this
theorem RpOk.non : RpOk .none 0 4 := ⟨rfl, rfl, Nat.le_refl _, by decide⟩
theorem RpOk.boo {b : Bool} : RpOk (.bool b) 0 5 := ⟨rfl, rfl, Nat.le_refl _, by cases b <;> decide⟩
structure RpAll (ds : List PyData) (dep len : Nat) : Prop where
  lay : PyData.canLayAll0 ds = true
  sh : PyData.showableAll ds = true
  dp : PyData.depthAll ds ≤ dep
  len : ((PyData.shownAll ds).map (·.length)).sum ≤ len
theorem RpAll.nil : RpAll [] 0 0 := ⟨rfl, rfl, Nat.le_refl _, Nat.le_refl _⟩
theorem RpAll.cons {d : PyData} {ds : List PyData} {a b x y : Nat} (h : RpOk d a x) (t : RpAll ds b y) : RpAll (d :: ds) (max a b) (x + y) := by
  refine ⟨by unfold PyData.canLayAll0; rw [h.lay, t.lay]; rfl, by unfold PyData.showableAll; rw [h.sh, t.sh]; rfl, ?_, ?_⟩
  · have h1 := h.dp
    have h2 := t.dp
    unfold PyData.depthAll
    omega
  · have h1 := h.len
    have h2 := t.len
    unfold PyData.shownAll
    rw [List.map_cons, List.sum_cons]
    omega
theorem RpOk.list {ds : List PyData} {a x : Nat} (h : RpAll ds a x) : RpOk (.list ds) (a + 1) (x + 2 * ds.length + 3) := by
  refine ⟨by unfold PyData.canLay0; exact h.lay, by unfold PyData.showable; exact h.sh, ?_, ?_⟩
  · have := h.dp
    unfold PyData.depth
    omega
  · have h1 := listText_len_le (PyData.shownAll ds)
    have h2 := h.len
    rw [PyData.shownAll_length] at h1
    unfold PyData.shown
    omega
theorem RpOk.tup {ds : List PyData} {a x : Nat} (h : RpAll ds a x) : RpOk (.tuple ds) (a + 1) (x + 2 * ds.length + 3) := by
  refine ⟨by unfold PyData.canLay0; exact h.lay, by unfold PyData.showable; exact h.sh, ?_, ?_⟩
  · have := h.dp
    unfold PyData.depth
    omega
  · have h1 := tupleText_len_le (PyData.shownAll ds)
    have h2 := h.len
    rw [PyData.shownAll_length] at h1
    unfold PyData.shown
    omega
theorem RpAll.map {α : Type} {c : α → PyData} {dep len : Nat} : ∀ {xs : List α}, (∀ x ∈ xs, RpOk (c x) dep len) → RpAll (xs.map c) dep (xs.length * len)
  | [], _ => ⟨rfl, rfl, Nat.zero_le _, Nat.zero_le _⟩
  | x :: xs, h => by
    have h1 := h x List.mem_cons_self
    have h2 := RpAll.map (xs := xs) fun y hy => h y (List.mem_cons_of_mem _ hy)
    have h3 := RpAll.cons h1 h2
    rw [List.length_cons, Nat.succ_mul, Nat.add_comm (xs.length * len)]
    refine ⟨h3.lay, h3.sh, ?_, h3.len⟩
    have := h3.dp
    rw [Nat.max_self] at this
    exact this
theorem RpOk.mono {d : PyData} {a b x y : Nat} (h : RpOk d a x) (h1 : a ≤ b) (h2 : x ≤ y) : RpOk d b y := ⟨h.lay, h.sh, Nat.le_trans h.dp h1, Nat.le_trans h.len h2⟩
section
variable {β : Type}
@[simp ↓] theorem grd_rp {d : PyData} {r : Rs β} (h : reprOk d = true) : grd (reprOk d) r = r := by rw [h]; rfl
end
end Dn
namespace Dn
open PySem PySem.Spec L2
open PyProof.Rows hiding St
section
variable {X : Cx} {pins : List (Addr × Obj)} {σ : St} {H H' : Hp} {s : Shared} {a : Addr} {y v : V} {u r : Value} {E : Value → Shared → Prop}
/-- an entry made by a comprehension -/
theorem put_entry {Q : Unit → Shared → Prop} (hu : X.A.units < cLine) (I : Inv X pins σ H s) (g : DPut H a y v H') (ry : RelV y u) (rv : RelV v r) (hq : ∀ t, Inv X pins σ H' t → Q () t) :
    wpAny (model X.prog X.w) X.A (dictSet a u r) Q E s := by
  rcases g with ⟨kvs, k, g1, g2, g3, g4⟩ | ⟨kvs, k, b, g1, g2, gb, g3, g4⟩
  · subst g2 g4
    exact d_dictSet I g1 g3 ry rv hq
  · subst g2 g4
    cases (show u = Value.ref b from ry)
    obtain ⟨z1, z2, xs, rel, dd⟩ := dt_of I.hok g1
    have w1 : xs.length ≤ sizeLine := by rw [← Paired.length rel]; exact z1
    have w2 : (putK kvs k v).length ≤ sizeLine := by have := length_putK kvs k v; omega
    refine wpAny_dictSet_heap (hsz := w1) hu (key_of I.hok gb) dd fun h1 d1 sb => hq _ ?_
    obtain ⟨o1, es, ep, p1, p2, p3, p4, _, p5⟩ := d1
    refine d_write I (by rw [g1]; exact True.intro) sb ⟨o1, p1⟩ ⟨w2, z2, _, (rel.put k gb rv).keeps fun c ys ec => ?_, o1, es, ep, p1, p2, p3, p4, p5⟩
    exact (upd_ne (ne_of ec g1 (fun z => nomatch z))).trans ec
end
/-- the empty dict of either kind -/
def e0 : Bool → HO
  | true => .dT []
  | false => .dK []
theorem e0_ok {P : Program} {w : World} {H : Hp} (k : Bool) (h : Heap) (hb : sysModules < h.objs.size) : ObjOk P w H (h.push { cls := .type "dict", data := .dict #[] }) h.objs.size (e0 k) := by
  cases k
  · exact dk_empty h hb
  · exact dt_empty h hb
/-- {k: v for target in iter if ..}: D the new dict, of the kind kd -/
def tDcx (kd : Bool) (wi : TI) (g : TG) (tt : TT) (tk tv : TE) (vs : List Nat) : TE := fun σ H Q => wi σ H fun J H1 => ∀ D, H1 D = none → ∃ W : Nat → Nat → Hp → Prop, (∃ m, W 0 m (upd H1 D (e0 kd))) ∧ ∀ i m H, W i m H →
  (J.stop i H ∧ Q (.ref D) H) ∨ (J.go i H ∧ ∃ Nx : Hp → Prop, (∀ H', Nx H' → ∃ m', m' < m ∧ W (i + 1) m' H') ∧ ∀ x H', J.yld i H x H' → g x (wipe σ vs) H' fun σ2 H2 => wipe σ2 vs = wipe σ vs ∧ tt σ2 H2 fun b H3 =>
    if b = true then tk σ2 H3 fun y H4 => tv σ2 H4 fun z H5 => ∃ H6, DPut H5 D y z H6 ∧ Nx H6 else Nx H3)
section
variable {X : Cx} {kx vx tg iter : Expr} {ifs : List Expr} {scope : Scope} {own : List (Str × Nat)} {wi : TI} {g : TG} {tt : TT} {tk tv : TE} {kd : Bool}
theorem dcx_core {pins : List (Addr × Obj)} {s : Shared} {σ : St} {H : Hp} {Q : VK} {pos pos' : Pos} {use : Option (Value → Sem Unit)} {Qf : Value → Shared → Prop}
    (hu : X.A.units < cLine) (hc : X.calm = true) (hN : X.N.Nodup) (I : Inv X pins σ H s) (hi : PI X tg iter wi) (ok : BlkOk X.N X.env.scope scope own)
    (hg : ∀ (t : Shared) (G : Hp) (C : Addr) (cl : List (Str × Addr)) (fp : List Addr), PG (X.blk t G scope (compEnvC scope cl C X.env) fp) tg g)
    (ht : ∀ (t : Shared) (G : Hp) (C : Addr) (cl : List (Str × Addr)) (fp : List Addr), PTs (X.blk t G scope (compEnvC scope cl C X.env) fp) ifs tt)
    (hk : ∀ (t : Shared) (G : Hp) (C : Addr) (cl : List (Str × Addr)) (fp : List Addr), PE (X.blk t G scope (compEnvC scope cl C X.env) fp) kx tk)
    (he : ∀ (t : Shared) (G : Hp) (C : Addr) (cl : List (Str × Addr)) (fp : List Addr), PE (X.blk t G scope (compEnvC scope cl C X.env) fp) vx tv)
    (hs : ∀ x, foldedSetIterable iter X.env x = pure x) (q0 : tDcx kd wi g tt tk tv (own.map (·.2)) σ H Q)
    (hend : ∀ D C t m G, Inv X pins σ G t → Q (.ref D) G → t.heap.Ns C m → FpOk X pins G C → compPost (model X.prog X.w) X.A X.xe use Qf (.ref D) C (.ok .next) t) :
    wpAny (model X.prog X.w) X.A (comprehension (.DictComp kx vx [⟨tg, iter, ifs, 0⟩] scope pos) scope X.env pos' newDict false (eval iter X.env) use) Qf X.xe s := by
  have clo : ∀ y ∈ scope.names, y.2 = .free → ∃ c, X.env.cells.lookup y.1 = some c := fun y hy e => (ok.free y hy e).elim (fun k => I.ok.has _ (.inl k)) fun k => I.ok.has _ (.inr k)
  refine wpAny_comprehension_free (use := use) rfl hs (closure_ok clo) ok.kind (fun y hy e => by rw [ok.uniq y hy, e])
    (thn (hi.run pins s σ H _ I q0) fun xv s1 hx => thn hx fun itv s2 hy => ?_)
  obtain ⟨it, fp, tn, J, H2, rfl, I2, T, st2, f2, q2⟩ := hy
  refine wpAny_newObj_type (newEnv_comp ?_)
  generalize eD : s2.heap.objs.size = D
  obtain ⟨W, ⟨m0, w0⟩, turn⟩ := q2 D (I2.hok.fresh (Nat.le_of_eq eD))
  generalize e3 : ({ s2 with heap := s2.heap.push { cls := .type "dict", data := .dict #[] } } : Shared) = s3
  have h3 : s3.heap = s2.heap.push { cls := .type "dict", data := .dict #[] } := by subst e3; rfl
  have I3 : Inv X pins σ (upd H2 D (e0 kd)) s3 := by
    subst e3
    refine I2.laid (t' := s2.toks) (fun _ _ e => Heap.get?_push_of_some _ e) (Nat.le_of_eq eD) ?_
    subst eD
    exact e0_ok kd s2.heap I2.big
  have young : ∀ b ∈ fp, b < s2.heap.objs.size := fun b hb => let ⟨_, e, _⟩ := T.obj _ _ st2 b hb; Heap.lt_size e
  have f3 : ∀ b ∈ fp, FpOk X pins (upd H2 D (e0 kd)) b ∧ b < s3.heap.objs.size := fun b hb => by
    have lt := young b hb
    have ne : b ≠ D := fun z => by rw [z, ← eD] at lt; exact Nat.lt_irrefl _ lt
    exact ⟨⟨(upd_ne ne).trans (f2 b hb).1, (f2 b hb).2⟩, by rw [h3, Heap.size_push]; exact Nat.lt_succ_of_lt lt⟩
  have st3 : tn 0 s3.heap := T.keep _ _ _ st2 fun b _ o e => by rw [h3]; exact Heap.get?_push_of_some _ e
  have I4 := block_start I3 ok hN f3
  generalize eC : cellsFrom (s3.heap.objs.size + 1) scope.names (cloFrom X.env.cells scope.names []) = cl at I4 ⊢
  have pg := hg s3 (upd H2 D (e0 kd)) s3.heap.objs.size cl fp
  have pt := ht s3 (upd H2 D (e0 kd)) s3.heap.objs.size cl fp
  have pk := hk s3 (upd H2 D (e0 kd)) s3.heap.objs.size cl fp
  have pv := he s3 (upd H2 D (e0 kd)) s3.heap.objs.size cl fp
  show codeAny _ _ (.compStart (.DictComp kx vx [⟨tg, iter, ifs, 0⟩] scope pos) 0 (.ref it) (.ref D) (compEnvC scope cl s3.heap.objs.size X.env)) (compPost (model X.prog X.w) X.A X.xe use Qf (.ref D) s3.heap.objs.size) { s3 with heap := pushCells (s3.heap.push { cls := .type "dict", data := .dict #[] }) scope.names }
  generalize ece : compEnvC scope cl s3.heap.objs.size X.env = ce at I4 pg pt pk pv ⊢
  have cL : ce.locals = s3.heap.objs.size := by subst ece; rfl
  have nfp : ∀ b ∈ fp, (upd H2 D (e0 kd)) b = none := fun b hb => (f3 b hb).1.1
  generalize eH3 : upd H2 D (e0 kd) = H3 at I3 I4 pg pt pk pv w0 nfp f3
  generalize e4 : ({ s3 with heap := pushCells (s3.heap.push { cls := .type "dict", data := .dict #[] }) scope.names } : Shared) = s4 at I4 ⊢
  have st4 : tn 0 s4.heap := T.keep _ _ _ st3 fun b _ o e => by subst e4; exact pushCells_keeps _ _ _ _ (Heap.get?_push_of_some _ e)
  have rest : ∀ {σ' : St} {G : Hp} {t : Shared}, Inv (X.blk s3 H3 scope ce fp) [] σ' G t → (∀ b ∈ fp, G b = none) → ∀ b ∈ fp, FpOk (X.blk s3 H3 scope ce fp) [] G b := fun {σ' G t} J1 hn b hb =>
    ⟨hn b hb, (J1.ok.exf b hb).1, J1.ok.exfs b hb, .inl hb, fun x c e => (J1.ok.exf b hb).2 x c e, fun p hp => by cases (show p ∈ ([] : List (Addr × Obj)) from hp)⟩
  have loop : codeAny (model X.prog X.w) X.A (.compLoop (.DictComp kx vx [⟨tg, iter, ifs, 0⟩] scope pos) 0 (.ref it) (.ref D) ce) (compPost (model X.prog X.w) X.A X.xe use Qf (.ref D) s3.heap.objs.size) s4 := by
    refine compLoop_anyD (fun n t => ∃ i G, Inv (X.blk s3 H3 scope ce fp) [] (wipe σ (own.map (·.2))) G t ∧ tn i t.heap ∧ (∀ b ∈ fp, G b = none) ∧ W i n G) ?_ m0 ⟨0, H3, I4, st4, nfp, w0⟩
    intro n s5 ⟨i, H5, I5, st5, n5, w5⟩
    rcases turn i n H5 w5 with ⟨stop, fin⟩ | ⟨go, Nx, less, step⟩
    · refine thnF (T.done (X.blk s3 H3 scope ce fp) rfl rfl rfl hc i [] s5 _ H5 (fun _ _ => False) I5 (rest I5 n5) st5 stop) fun r s6 ⟨hr, I6⟩ => ?_
      subst hr
      have back : Inv X pins σ H5 s6 := I3.call' (ch := fp) I6.os I6.base I6.hok I6.bare fun b hb => let z := (f3 b hb).1; ⟨z.2.2.2.1, z.2.1, z.2.2.2.2.1, z.2.2.2.2.2⟩
      have nC : H5 s3.heap.objs.size = none := cL ▸ (show H5 ce.locals = none from I6.free)
      obtain ⟨m, hn, _⟩ := I6.loc
      exact hend D _ s6 m H5 back fin (cL ▸ (show s6.heap.Ns ce.locals m from hn)) (I3.fpOk (Nat.le_refl _) nC)
    · refine thnF (T.item (X.blk s3 H3 scope ce fp) rfl rfl rfl hc i [] s5 _ H5 (fun _ _ => False) I5 (rest I5 n5) st5 go) fun r s6 ⟨u, hr, h6⟩ => ?_
      subst hr
      refine thnF h6 fun _ s7 ⟨x, H7, I7, r7, y7, st7, n7⟩ => ?_
      refine thnF (pg.run _ s7 _ H7 x u _ (I7.pinned (rest I7 n7) (T.obj _ _ st7)) r7 (step x H7 y7)) fun _ s8 ⟨σ8, H8, I8, w8, q8⟩ => ?_
      refine thnF (pt.run _ s8 σ8 H8 _ I8 q8) fun b s9 ⟨H9, I9, q9⟩ => ?_
      have fin : ∀ {t : Shared} {G : Hp}, Inv (X.blk s3 H3 scope ce fp) ([] ++ pinsAt fp s7.heap) σ8 G t → Nx G → ∃ m, m < n ∧ ∃ i G, Inv (X.blk s3 H3 scope ce fp) [] (wipe σ (own.map (·.2))) G t ∧ tn i t.heap ∧ (∀ b ∈ fp, G b = none) ∧ W i m G := fun {t G} J1 nx => by
        obtain ⟨m', lt, w'⟩ := less G nx
        have held : ∀ b ∈ fp, ∀ o, s7.heap.get? b = some o → t.heap.get? b = some o ∧ G b = none := fun b hb o e =>
          let z := J1.pin (b, o) (List.mem_append_right _ (List.mem_append_right _ (mem_pinsAt hb e))); ⟨z.1, z.2.1⟩
        refine ⟨m', lt, i + 1, G, (J1.unpinned (pins := [])).weak (by rw [← w8, wipe_length]) (fun j v e => ?_), T.keep _ _ _ st7 fun b hb o e => (held b hb o e).1, fun b hb => ?_, w'⟩
        · rw [← w8] at e; exact (wipe_some e).1
        · obtain ⟨o, e, _⟩ := T.obj _ _ st7 b hb
          exact (held b hb o e).2
      cases b with
      | false => exact fin I9 q9
      | true =>
        refine thnF (pk.run _ s9 σ8 H9 _ I9 q9) fun z s10 ⟨yk, H10, I10, r10, q10⟩ => ?_
        refine thnF (pv.run _ s10 σ8 H10 _ I10 q10) fun z2 s11 ⟨yv, H11, I11, r11, H12, dp, nx⟩ => ?_
        exact put_entry (X := X.blk s3 H3 scope ce fp) hu I11 dp r10 r11 fun s12 I12 => fin I12 nx
  exact codeAny_compStart_dict loop (T.self X.A 0 _ _ _ st4 loop)
/-- a dict comprehension as a value -/
theorem pe_dcx {pos : Pos} (hu : X.A.units < cLine) (hc : X.calm = true) (hN : X.N.Nodup) (hi : PI X tg iter wi) (ok : BlkOk X.N X.env.scope scope own)
    (hg : ∀ (t : Shared) (G : Hp) (C : Addr) (cl : List (Str × Addr)) (fp : List Addr), PG (X.blk t G scope (compEnvC scope cl C X.env) fp) tg g)
    (ht : ∀ (t : Shared) (G : Hp) (C : Addr) (cl : List (Str × Addr)) (fp : List Addr), PTs (X.blk t G scope (compEnvC scope cl C X.env) fp) ifs tt)
    (hk : ∀ (t : Shared) (G : Hp) (C : Addr) (cl : List (Str × Addr)) (fp : List Addr), PE (X.blk t G scope (compEnvC scope cl C X.env) fp) kx tk)
    (he : ∀ (t : Shared) (G : Hp) (C : Addr) (cl : List (Str × Addr)) (fp : List Addr), PE (X.blk t G scope (compEnvC scope cl C X.env) fp) vx tv)
    (hs : ∀ x, foldedSetIterable iter X.env x = pure x := by intro _; rfl) : PE X (.DictComp kx vx [⟨tg, iter, ifs, 0⟩] scope pos) (tDcx kd wi g tt tk tv (own.map (·.2))) := by
  refine ⟨fun pins s σ H Q I q => ?_⟩
  rw [arm_eval_DictComp]
  refine dcx_core hu hc hN I hi ok hg ht hk he hs q fun D C t m G J1 q1 hn f => ⟨m, hn, fun h2 sb => ?_⟩
  exact ⟨.ref D, G, J1.turned (t' := t.toks) (fun b o hb e => (sb.2 b hb).trans e) f.1 f.2.1 f.2.2.2.1 f.2.2.2.2.1 f.2.2.2.2.2, rfl, q1⟩
end
end Dn
namespace Dn
open PySem PySem.Spec L2
def keyS : PyData → Option Key
  | .int i => some (.inl i)
  | .str x => some (.inr x)
  | _ => none
def keyL : List PyData → Option (List Key)
  | [] => some []
  | d :: ds => match keyS d, keyL ds with
    | some k, some ks => some (k :: ks)
    | _, _ => none
def tkey : PyData → Option (List Key)
  | .tuple ds => keyL ds
  | _ => none
def putG {κ α : Type} [DecidableEq κ] (kvs : List (κ × α)) (k : κ) (v : α) : List (κ × α) :=
  if (kvs.any fun kv => decide (kv.1 = k)) = true then kvs.map (fun kv => if kv.1 = k then (kv.1, v) else kv) else kvs ++ [(k, v)]
def valG {κ α : Type} [DecidableEq κ] (kvs : List (κ × α)) (k : κ) : Option α := (kvs.find? fun kv => decide (kv.1 = k)).map (·.2)
section
variable {K : PySem.W.Frag} {H0 F F' H : Hp} {n : Bool}
theorem keyS_is {d : PyData} {k : Key} {v : V} (h : Is K H0 n F v d) (e : keyS d = some k) : v = kV k := by
  cases h with
  | int i => cases e; rfl
  | str x => cases e; rfl
  | non => cases e
  | bl b => cases e
  | lst _ _ _ => cases e
  | tup _ _ => cases e
  | dk _ _ _ => cases e
  | dt _ _ _ => cases e
  | dl _ _ _ => cases e
  | exc _ _ _ _ => cases e
theorem keyL_is : ∀ {ds : List PyData} {k : List Key} {vs : List V}, IsA K H0 n F vs ds → keyL ds = some k → vs = k.map kV
  | [], k, vs, h, e => by cases h; cases e; rfl
  | d :: ds, k, vs, h, e => by
    cases h with
    | cons h t =>
      unfold keyL at e
      split at e
      · rename_i a b ha hb
        cases e
        rw [keyS_is h ha, keyL_is t hb]; rfl
      · cases e
theorem Dr.length : ∀ {r : List (List Key × V)} {q : List (List Key × PyData)}, Dr K H0 F r q → r.length = q.length
  | _, _, .nil => rfl
  | _, _, .cons _ t => by simp [t.length]
theorem Dr.any {k : List Key} : ∀ {r : List (List Key × V)} {q : List (List Key × PyData)}, Dr K H0 F r q → (r.any fun kv => decide (kv.1 = k)) = q.any fun kv => decide (kv.1 = k)
  | _, _, .nil => rfl
  | _, _, .cons _ t => by simp only [List.any_cons]; rw [t.any]
theorem Dr.app : ∀ {r r2 : List (List Key × V)} {q q2 : List (List Key × PyData)}, Dr K H0 F r q → Dr K H0 F r2 q2 → Dr K H0 F (r ++ r2) (q ++ q2)
  | _, _, _, _, .nil, h => h
  | _, _, _, _, .cons h t, h2 => .cons h (t.app h2)
theorem Dr.repl {k : List Key} {v : V} {d : PyData} (hv : Is K H0 false F v d) : ∀ {r : List (List Key × V)} {q : List (List Key × PyData)}, Dr K H0 F r q → Dr K H0 F (r.map fun kv => if kv.1 = k then (kv.1, v) else kv) (q.map fun kv => if kv.1 = k then (kv.1, d) else kv)
  | _, _, .nil => .nil
  | _, _, .cons (k := j) h t => by
    simp only [List.map_cons]
    by_cases z : j = k
    · rw [if_pos z, if_pos z]; exact .cons hv (t.repl hv)
    · rw [if_neg z, if_neg z]; exact .cons h (t.repl hv)
theorem Dr.put {k : List Key} {v : V} {d : PyData} {r : List (List Key × V)} {q : List (List Key × PyData)} (h : Dr K H0 F r q) (hv : Is K H0 false F v d) : Dr K H0 F (putK r k v) (putG q k d) := by
  unfold putK putG
  rw [h.any]
  split
  · exact h.repl hv
  · exact h.app (.cons hv .nil)
theorem Dr.val {k : List Key} : ∀ {r : List (List Key × V)} {q : List (List Key × PyData)}, Dr K H0 F r q → (∃ v d, valV r k = some v ∧ valG q k = some d ∧ Is K H0 false F v d) ∨ (valV r k = none ∧ valG q k = none)
  | _, _, .nil => .inr ⟨rfl, rfl⟩
  | _, _, .cons (k := j) h t => by
    by_cases z : j = k
    · refine .inl ⟨_, _, ?_, ?_, h⟩
      · unfold valV; rw [List.find?_cons_of_pos (by simpa using z)]; rfl
      · unfold valG; rw [List.find?_cons_of_pos (by simpa using z)]; rfl
    · have e1 : ∀ {α : Type} (x : α) (l : List (List Key × α)), (((j, x) :: l).find? fun kv => decide (kv.1 = k)) = l.find? fun kv => decide (kv.1 = k) := fun x l => List.find?_cons_of_neg (by simpa using z)
      rcases t.val (k := k) with ⟨v, d, h1, h2, h3⟩ | ⟨h1, h2⟩
      · exact .inl ⟨v, d, by unfold valV at h1 ⊢; rw [e1]; exact h1, by unfold valG at h2 ⊢; rw [e1]; exact h2, h3⟩
      · exact .inr ⟨by unfold valV at h1 ⊢; rw [e1]; exact h1, by unfold valG at h2 ⊢; rw [e1]; exact h2⟩
theorem kD_inj {a b : Key} (h : kD a = kD b) : a = b := by
  cases a <;> cases b <;> cases h <;> rfl
theorem map_kD_inj : ∀ {a b : List Key}, a.map kD = b.map kD → a = b
  | [], [], _ => rfl
  | [], _ :: _, h => nomatch h
  | _ :: _, [], h => nomatch h
  | x :: a, y :: b, h => by
    rw [List.map_cons, List.map_cons] at h
    obtain ⟨h1, h2⟩ := List.cons.inj h
    rw [kD_inj h1, map_kD_inj h2]
theorem encT_inj {a b : List Key} (h : encT a = encT b) : a = b := map_kD_inj (PyData.tuple.inj h)
theorem zip_dr : ∀ {r : List (List Key × V)} {ds : List PyData} {q : List (List Key × PyData)}, IsA K H0 n F (r.map (·.2)) ds → (r.map fun p => PyData.tuple (p.1.map kD)).zip ds = q.map (fun p => (encT p.1, p.2)) → Dr K H0 F r q
  | [], ds, q, h, e => by
    cases q with
    | nil => exact .nil
    | cons _ _ => cases e
  | p :: r, ds, q, h, e => by
    cases h with
    | cons h t =>
      cases q with
      | nil => cases e
      | cons p2 q =>
        simp only [List.map_cons, List.zip_cons_cons] at e
        obtain ⟨e1, e2⟩ := List.cons.inj e
        obtain ⟨e3, e4⟩ := Prod.mk.inj e1
        obtain ⟨k, v⟩ := p
        obtain ⟨k2, d2⟩ := p2
        have e3 : k = k2 := encT_inj e3
        subst e3 e4
        exact .cons (h.weak (Same.refl F)) (zip_dr t e2)
/-- a dict read back -/
theorem is_dD {v : V} {q : List (List Key × PyData)} (h : Is K H0 n F v (dD q)) : ∃ a r, v = .ref a ∧ Rd F a (.dT r) ∧ Dr K H0 F r q := by
  unfold dD at h
  generalize e : ((.bool true, .none) :: q.map (fun p => (encT p.1, p.2)) : List (PyData × PyData)) = l at h
  cases h with
  | @dt a kvs ds h1 h2 h3 => exact ⟨a, kvs, rfl, h1, zip_dr h3 (List.cons.inj e).2.symm⟩
  | @dk a kvs ds h1 h2 h3 => cases (List.cons.inj e).1
  | @dl a o kvs ds h1 h2 h3 => cases (List.cons.inj e).1
  | exc _ _ _ _ => cases (List.cons.inj e).1
end
def fDcL (own : List Nat) (g : FG) (t : FT) (fk fv : FV) : List Dv → Env → List (List Key × PyData) → Rs (Env × List (List Key × PyData))
  | [], e, acc => .ok (e, acc)
  | x :: xs, e, acc => (noex (g x e)).bind fun e1 => (noex (t e1)).bind fun b => if b = true then (noex (fk e1)).bind fun p => (noex (fv p.1)).bind fun q => (match tkey p.2.2 with
      | some k => grd (decide (acc.length < 1000000)) (fDcL own g t fk fv xs (wipeE q.1 own) (putG acc k q.2.2))
      | none => .bad) else fDcL own g t fk fv xs (wipeE e1 own) acc
def fDc (own : List Nat) (it : FA) (g : FG) (t : FT) (fk fv : FV) : FE := fun env => (it env).bind fun p => grd (okOwn p.1 own) ((fDcL own g t fk fv p.2 (wipeE p.1 own) []).bind fun q => .ok (backE p.1 q.1 own, .sh false (dD q.2)))
section
variable {K : PySem.W.Frag} {H0 F0 F H : Hp} {env : Env} {σ : St} {D : Addr} {o o' : HO}
/-- it stands at the end, shared -/
theorem Rel.baseShare (r : Rel K (upd H0 D o) F0 env σ F H) (h0 : F0 D = none) (hB : H0 D = none) (hD : H D = some o') : Rel K H0 F0 env σ (upd F D o') H := by
  have fD := base_f r h0
  obtain ⟨fp, r⟩ := r
  have nfp : ∀ i, ¬ fp i D := fun i z => by have := (r.out i D z).2.1; rw [upd_same] at this; cases this
  have r1 : RelF K H0 F0 env σ F H fp := ⟨r.fz, (same_new hB).trans r.base, r.len, fun i s q => by
    obtain ⟨v, h1, h2⟩ := r.sl i s q
    exact ⟨v, h1, h2.rebase (D := D) (fun a fa ha => (upd_none.mp ha).2) (fun _ _ => rfl) fD (nfp i)⟩, r.dis, fun i a h => ⟨(r.out i a h).1, (upd_none.mp (r.out i a h).2.1).2, (r.out i a h).2.2⟩, fun a z => (r.new a z).imp_right fun y => (upd_none.mp y).2, r.f0⟩
  refine ⟨fp, r1.grow (Same.refl H) (same_new fD) (fun a u e => ?_) (fun i a ha => ?_) fun a z => ?_⟩
  · by_cases y : a = D
    · subst y; rw [upd_same] at e; cases e; exact hD
    · rw [upd_ne y] at e; exact r.fz a u e
  · have hne : a ≠ D := fun z => nfp i (by rw [← z]; exact ha)
    rw [upd_ne hne]; exact (r1.out i a ha).1
  · by_cases y : a = D
    · subst y; exact .inr hB
    · rw [upd_ne y] at z; exact .inl z
theorem rel_back0 {vs : List Nat} {env1 : Env} {F1 H1 : Hp} (r1 : Rel K H0 F0 env1 σ F1 H1) (ok : okOwn env1 vs = true) (e : Same F1 F) (r : Rel K H0 F0 env (wipe σ vs) F H) : Rel K H0 F0 (backE env1 env vs) σ F H := by
  have r2 : Rel K H0 F0 (env ++ [none]) (wipe σ vs ++ [none]) F H := r.sub (by simp [r.len]) fun i s q => by
    rcases get_app q with q | ⟨_, q⟩
    · have hi : i < env.length := (List.getElem?_eq_some_iff.mp q).1
      exact .inl ⟨q, List.getElem?_append_left (by rw [r.len]; exact hi)⟩
    · cases q
  exact (rel_back r1 ok e r2).pop
end
theorem dc_le {K : PySem.W.Frag} {mg : Str → Option Value} {W : WX} {own is : List Nat} {fi : FA} {g : FG} {t : FT} {fk fv : FV} {σ : St} {H : Hp} {Q : VK} (his : ∀ i ∈ is, i ∈ own) (h : tE K mg W (fDc own fi g t fk fv) σ H Q) :
    tDcx true (tI K mg W fi) (tG K is g) (tT K mg W0 t) (tD K mg W0 fk) (tD K mg W0 fv) own σ H Q := by
  obtain ⟨H0, F0, F, env, r, h⟩ := h
  refine ⟨H0, F0, F, env, r, ?_⟩
  unfold fDc at h
  refine Rs.post_mono (Rs.post_bind.mp h) (fun p hp J F1 H1 r1 good e1 e2 => ?_) fun _ _ x => x
  obtain ⟨env1, ps⟩ := p
  dsimp only at hp r1 good
  obtain ⟨ok, hp⟩ := grd_post hp
  have hp := Rs.post_bind.mp hp
  intro D hD
  have fD1 : F1 D = none := same_none r1.fz hD
  have f0 : F0 D = none := by obtain ⟨fp, rf⟩ := r1; exact same_none rf.f0 fD1
  have b0 : H0 D = none := same_none r1.base hD
  refine ⟨fun i m H' => ∃ F2 e acc xs, Rel K (upd H0 D (.dT xs)) F0 e (wipe σ own) F2 H' ∧ Same F1 F2 ∧ Same H1 H' ∧ H' D = some (.dT xs) ∧ Dr K H0 F2 xs acc ∧ m = ps.length - i ∧
      (fDcL own g t fk fv (ps.drop i) e acc).post (fun q => ∀ v F' H', RelR K H0 F0 (backE env1 q.1 own) σ F' H' v (.sh false (dD q.2)) → Same H H' → Same F F' → Q v H') (ExP K mg W H0 F0 F H σ),
    ⟨ps.length, F1, wipeE env1 own, [], [], rel_wipe (r1.baseNew hD) rfl, Same.refl F1, same_new hD, upd_same, .nil, by omega, by rw [List.drop_zero]; exact hp⟩, fun i m H' hw => ?_⟩
  obtain ⟨F2, e, acc, xs, r2, s2, k2, hx, ia, em, q2⟩ := hw
  have fD2 := base_f r2 f0
  obtain ⟨g1, g2⟩ := good i F2 H' s2 r2.fz
  by_cases hi : i < ps.length
  · rw [List.drop_eq_getElem_cons hi] at q2
    obtain ⟨go, yld⟩ := g1 ps[i] (List.getElem?_eq_getElem hi)
    refine .inr ⟨go, fun H3 => ∃ F3 e3 acc3 xs3, Rel K (upd H0 D (.dT xs3)) F0 e3 (wipe σ own) F3 H3 ∧ Same F1 F3 ∧ Same H1 H3 ∧ H3 D = some (.dT xs3) ∧ Dr K H0 F3 xs3 acc3 ∧
      (fDcL own g t fk fv (ps.drop (i + 1)) e3 acc3).post (fun q => ∀ v F' H', RelR K H0 F0 (backE env1 q.1 own) σ F' H' v (.sh false (dD q.2)) → Same H H' → Same F F' → Q v H') (ExP K mg W H0 F0 F H σ), fun H3 hn => ?_, fun x H3 hy => ?_⟩
    · obtain ⟨F3, e3, acc3, xs3, z1, z2, z3, z4, z5, z6⟩ := hn
      exact ⟨ps.length - (i + 1), by omega, F3, e3, acc3, xs3, z1, z2, z3, z4, z5, rfl, z6⟩
    · obtain ⟨F3, ex, ix⟩ := yld x H3 hy
      have fD3 : F3 D = none := by
        cases z : F3 D with
        | none => rfl
        | some o =>
          rcases ex.new D (by rw [z]; exact fun z => nomatch z) with y | y
          · exact absurd fD2 y
          · rw [hx] at y; cases y
      refine ⟨upd H0 D (.dT xs), F0, F3, e, ps[i], r2.ext ex, Is.le (show Le H0 F3 ps[i].1 (upd H0 D (.dT xs)) F3 ps[i].1 from ⟨Same.refl F3, id, fun _ a fa ha => by rw [upd_ne (fun z => fa (by rw [z]; exact fD3))]; exact ha⟩) ix, ?_⟩
      unfold fDcL at q2
      refine Rs.post_mono (noex_post (E' := fun _ _ => False) q2) (fun e4 h4 σ4 r4 b4 => ⟨wipe_but b4 his, ?_⟩) fun _ _ z => z
      refine ⟨upd H0 D (.dT xs), F0, F3, e4, r4, ?_⟩
      refine Rs.post_mono (noex_post (E' := fun _ _ => False) h4) (fun b h5 H5 r5 e5 => ?_) fun _ _ z => z.elim
      cases b with
      | true =>
        rw [if_pos rfl] at h5 ⊢
        refine ⟨upd H0 D (.dT xs), F0, F3, e4, r5, ?_⟩
        refine Rs.post_mono (noex_post (E' := fun _ _ => False) h5) (fun p6 h6 y F6 H6 r6 i6 e6 s6 => ?_) fun _ _ z => z.elim
        refine ⟨upd H0 D (.dT xs), F0, F6, p6.1, r6, ?_⟩
        refine Rs.post_mono (noex_post (E' := fun _ _ => False) h6) (fun p7 h7 z F7 H7 r7 i7 e7 s7 => ?_) fun _ _ z => z.elim
        split at h7
        · rename_i k hk
          obtain ⟨hz, h7⟩ := grd_post h7
          have hz := of_decide_eq_true hz
          have hxs : xs.length < 1000000 := by rw [ia.length]; exact hz
          have hD7 : H7 D = some (.dT xs) := e7 D _ (e6 D _ (e5 D _ (ex.h D _ hx)))
          obtain ⟨q1, q3, d6⟩ := p6
          dsimp only at hk i6 h7
          unfold tkey at hk
          split at hk
          · rename_i ds
            cases i6 with
            | @tup b ys _ hb ha =>
              have hys := keyL_is ha hk
              subst hys
              have hb7 : H7 b = some (.tup (k.map kV)) := r7.fz _ _ (s7 _ _ hb)
              have e37 : Same F2 F7 := (ex.f.trans s6).trans s7
              refine ⟨upd H7 D (.dT (putK xs k z)), DPut.t hD7 hb7 (million hxs), F7, wipeE p7.1 own, putG acc k p7.2.2, putK xs k z, rel_wipe (r7.baseSet f0) (wipe_but b4 his), s2.trans e37, fun a u hu => ?_, upd_same, ?_, h7⟩
              · have hne : a ≠ D := fun z => by rw [z, hD] at hu; cases hu
                rw [upd_ne hne]
                exact e7 a u (e6 a u (e5 a u (ex.h a u (k2 a u hu))))
              · exact (ia.to e37).put (i7.weak (Same.refl F7))
          · cases hk
        · exact h7.elim
      | false =>
        rw [if_neg (by decide)] at h5 ⊢
        exact ⟨F3, wipeE e4 own, acc, xs, rel_wipe r5 (wipe_but b4 his), s2.trans ex.f, fun a u hu => e5 a u (ex.h a u (k2 a u hu)), e5 D _ (ex.h D _ hx), ia.to ex.f, h5⟩
  · refine .inl ⟨g2 (by omega), ?_⟩
    rw [List.drop_eq_nil_of_le (by omega)] at q2
    have r3 := r2.baseShare f0 b0 hx
    have s3 : Same F2 (upd F2 D (.dT xs)) := same_new fD2
    exact q2 (.ref D) (upd F2 D (.dT xs)) H' ⟨rel_back0 r1 ok (s2.trans s3) r3, (ia.to s3).is (.inl upd_same)⟩ (e1.trans k2) ((e2.trans s2).trans s3)
section
variable {X : Cx} {W : WX} {kx vx tg iter : Expr} {ifs : List Expr} {scope : Scope} {own : List (Str × Nat)} {pos : Pos} {is : List Nat} {fi : FA} {g : FG} {t : FT} {fk fv : FE}
theorem d_dc (hu : X.A.units + 64 < cLine) (hc : X.calm = true) (hN : X.N.Nodup) (hi : DI X W tg iter fi) (ok : BlkOk X.N X.env.scope scope own) (his : ∀ i ∈ is, i ∈ own.map (·.2))
    (hg : ∀ (s : Shared) (H : Hp) (C : Addr) (cl : List (Str × Addr)) (fp : List Addr), DG (X.blk s H scope (compEnvC scope cl C X.env) fp) tg is g)
    (ht : ∀ (s : Shared) (H : Hp) (C : Addr) (cl : List (Str × Addr)) (fp : List Addr), PTs (X.blk s H scope (compEnvC scope cl C X.env) fp) ifs (tT X.K X.mg W0 t))
    (hk : ∀ (s : Shared) (H : Hp) (C : Addr) (cl : List (Str × Addr)) (fp : List Addr), DE (X.blk s H scope (compEnvC scope cl C X.env) fp) W0 kx fk)
    (hv : ∀ (s : Shared) (H : Hp) (C : Addr) (cl : List (Str × Addr)) (fp : List Addr), DE (X.blk s H scope (compEnvC scope cl C X.env) fp) W0 vx fv) (hs : ∀ x, foldedSetIterable iter X.env x = pure x := by intro _; rfl) :
    DE X W (.DictComp kx vx [⟨tg, iter, ifs, 0⟩] scope pos) (fDc (own.map (·.2)) fi g t (st fk) (st fv)) :=
  pe_le (pe_dcx (by omega) hc hN hi ok hg ht (fun s H C cl fp => (hk s H C cl fp).d) (fun s H C cl fp => (hv s H C cl fp).d) hs) fun σ H Q q => dc_le his q
end
end Dn
namespace Dn
open PySem PySem.Spec L2
section
variable {X : Cx} {W : WX} {e a b : Expr} {f fa fb : FE} {pos : Pos}
def findT : List (PyData × PyData) → List Key → Option PyData
  | [], _ => none
  | (d, v) :: r, k => if tkey d = some k then some v else findT r k
def gGet (kvs : List (PyData × PyData)) (k : List Key) : R := match findT kvs k with
  | some d => .sh (atom d) d
  | none => .sh true .none
def entsT : PyData → Option (List (PyData × PyData))
  | .dict ((.bool true, .none) :: kvs) => some kvs
  | _ => none
theorem entsT_some {d : PyData} {kvs : List (PyData × PyData)} (h : entsT d = some kvs) : d = .dict ((.bool true, .none) :: kvs) := by
  unfold entsT at h
  split at h
  · cases h; rfl
  · cases h
theorem keyS_D (k : Key) : keyS (kD k) = some k := by cases k <;> rfl
theorem keyL_D : ∀ k : List Key, keyL (k.map kD) = some k
  | [] => rfl
  | x :: k => by
    show keyL (kD x :: k.map kD) = _
    unfold keyL
    rw [keyS_D, keyL_D k]
theorem tkey_enc (k : List Key) : tkey (encT k) = some k := keyL_D k
theorem findT_enc {k : List Key} : ∀ q : List (List Key × PyData), findT (q.map fun p => (encT p.1, p.2)) k = valG q k
  | [] => rfl
  | p :: q => by
    show (if tkey (encT p.1) = some k then some p.2 else findT (q.map fun p => (encT p.1, p.2)) k) = _
    rw [tkey_enc, findT_enc q]
    unfold valG
    by_cases z : p.1 = k
    · rw [if_pos (by rw [z]), List.find?_cons_of_pos (by simpa using z)]; rfl
    · rw [if_neg (fun h => z (Option.some.inj h)), List.find?_cons_of_neg (by simpa using z)]
/-- any dict with the mark is one of tuples -/
theorem is_dM {K : PySem.W.Frag} {H0 F : Hp} {n : Bool} {v : V} {kvs : List (PyData × PyData)} (h : Is K H0 n F v (.dict ((.bool true, .none) :: kvs))) : ∃ q : List (List Key × PyData), kvs = q.map fun p => (encT p.1, p.2) := by
  generalize e : ((.bool true, .none) :: kvs : List (PyData × PyData)) = l at h
  cases h with
  | @dk a kv ds h1 h2 h3 => cases (List.cons.inj e).1
  | @dl a o kv ds h1 h2 h3 => cases (List.cons.inj e).1
  | exc _ _ _ _ => cases (List.cons.inj e).1
  | @dt a kv ds h1 h2 h3 =>
    obtain ⟨_, rfl⟩ := List.cons.inj e
    clear e h1 h2
    induction kv generalizing ds with
    | nil => exact ⟨[], rfl⟩
    | cons p r ih => cases h3 with
      | @cons _ _ d ds h t =>
        obtain ⟨q, hq⟩ := ih t
        exact ⟨(p.1, d) :: q, by simp only [List.map_cons, List.zip_cons_cons, hq]; rfl⟩
def fGet (fo fe : FV) : FE := fun env => (fo env).bind fun p => match entsT p.2.2 with
  | some kvs => (fe p.1).bind fun q => match tkey q.2.2 with
    | some k => .ok (q.1, gGet kvs k)
    | none => .bad
  | none => .bad
theorem vw_dM {K : PySem.W.Frag} {H0 F H : Hp} {v : V} {n : Bool} {d : PyData} {kvs : List (PyData × PyData)} (h : Vw K H0 F H v (n, d)) (e : entsT d = some kvs)   : ∃ (a : Addr) (r : List (List Key × V)) (q : List (List Key × PyData)), v = .ref a ∧ kvs = q.map (fun p => (encT p.1, p.2)) ∧ Rd F a (.dT r) ∧ Dr K H0 F r q := by
  have e := entsT_some e
  subst e
  rcases h with h | ⟨_, _, _, _, h, _⟩
  · obtain ⟨q, rfl⟩ := is_dM h
    obtain ⟨a, r, h1, h2, h3⟩ := is_dD (q := q) h
    exact ⟨a, r, q, h1, rfl, h2, h3⟩
  · cases h
theorem d_get {apos cpos : Pos} (hu : X.A.units + 64 < cLine) (ha : DE X W a fa) (hb : DE X W b fb) (m : M1 X a "get" apos b cpos) : DE X W (.Call (.Attribute a "get" apos) [b] [] cpos) (fGet (rd fa) (st fb)) :=
  pe_le (pe_dget1 (by omega) ha.v hb.d m) fun σ H Q ⟨H0, F0, F, env, r, h⟩ => by
    refine ⟨H0, F0, F, env, r, ?_⟩
    unfold fGet at h
    refine Rs.post_mono (Rs.post_bind.mp h) (fun p hp v F1 H1 r1 v1 e1 e2 => ?_) fun _ _ x => x
    obtain ⟨q1, n1, d1⟩ := p
    dsimp only at hp v1 r1
    split at hp
    · rename_i kvs hk
      obtain ⟨a, r, q, rfl, rfl, h2, h3⟩ := vw_dM v1 hk
      refine ⟨a, rfl, .inr ⟨r, same_rd r1.fz h2⟩, H0, F0, F1, q1, r1, ?_⟩
      refine Rs.post_mono (Rs.post_bind.mp hp) (fun p2 hp2 y F2 H2 r2 i2 e3 e4 => ?_) fun _ _ x => x.to e2 e1
      obtain ⟨q2, n2, d2⟩ := p2
      dsimp only at hp2 i2 r2
      split at hp2
      · rename_i k hk2
        unfold tkey at hk2
        split at hk2
        · rename_i ds
          cases i2 with
          | @tup b ys _ hb ha =>
            have hys := keyL_is ha hk2
            subst hys
            have h4 : Dr X.K H0 F2 r q := h3.to e4
            have h5 : Rd H2 a (.dT r) := same_rd r2.fz (same_rd e4 h2)
            unfold gGet at hp2
            rw [findT_enc] at hp2
            rcases h4.val (k := k) with ⟨v, d, z1, z2, z3⟩ | ⟨z1, z2⟩
            · rw [z2] at hp2
              refine ⟨some v, .inr ⟨r, k, b, h5, rfl, r2.fz _ _ hb, z1.symm⟩, ?_⟩
              refine hp2 v F2 H2 ⟨r2, ?_⟩ (e1.trans e3) (e2.trans e4)
              have := z3.orAtom (Same.refl F2)
              rwa [Bool.false_or] at this
            · rw [z2] at hp2
              exact ⟨none, .inr ⟨r, k, b, h5, rfl, r2.fz _ _ hb, z1.symm⟩, hp2 .non F2 H2 ⟨r2, .non⟩ (e1.trans e3) (e2.trans e4)⟩
        · cases hk2
      · exact hp2.elim
    · exact hp.elim
def bMin : GN := fun ps => match ps with
  | [(_, .int i), (_, .int j)] => sc (.int (if j < i then j else i))
  | _ => .bad
def bMax : GN := fun ps => match ps with
  | [(_, .int i), (_, .int j)] => sc (.int (if j > i then j else i))
  | _ => .bad
theorem bMin_no : ∀ p e x, bMin p ≠ .ex e x := fun p e x h => by
  unfold bMin at h; split at h <;> cases h
theorem bMax_no : ∀ p e x, bMax p ≠ .ex e x := fun p e x h => by
  unfold bMax at h; split at h <;> cases h
theorem cr_gmin (hc : X.calm = true) : CallR X (.builtin "min") (rGN X.K bMin) := fun pins s σ H xs us Q I rv ⟨H0, F, ps, fz, bs, vw, hp⟩ => by
  unfold bMin at hp
  split at hp
  · rename_i n1 i n2 j
    cases vw with
    | cons h1 h2 =>
      cases h2 with
      | cons h2 h3 =>
        cases h3
        exact call_min2 hc pins s σ H _ us Q I rv ⟨i, j, by rw [vw_int h1, vw_int h2], sc_ok hp fz (.int _)⟩
  · exact hp.elim
theorem cr_gmax (hc : X.calm = true) : CallR X (.builtin "max") (rGN X.K bMax) := fun pins s σ H xs us Q I rv ⟨H0, F, ps, fz, bs, vw, hp⟩ => by
  unfold bMax at hp
  split at hp
  · rename_i n1 i n2 j
    cases vw with
    | cons h1 h2 =>
      cases h2 with
      | cons h2 h3 =>
        cases h3
        exact call_max2 hc pins s σ H _ us Q I rv ⟨i, j, by rw [vw_int h1, vw_int h2], sc_ok hp fz (.int _)⟩
  · exact hp.elim
def boolsOf : List PyData → Option (List Bool)
  | [] => some []
  | .bool b :: ds => (boolsOf ds).map (b :: ·)
  | _ :: _ => none
theorem bools_is {K : PySem.W.Frag} {H0 F : Hp} {n : Bool} : ∀ {ds : List PyData} {xs : List V} {bs : List Bool}, IsA K H0 n F xs ds → boolsOf ds = some bs → xs = bs.map V.bl
  | [], xs, bs, h, e => by cases h; cases e; rfl
  | d :: ds, xs, bs, h, e => by
    unfold boolsOf at e
    split at e
    · rename_i h1; cases h1
    · rename_i b ds' h1
      cases h1
      cases q : boolsOf ds with
      | none => rw [q] at e; cases e
      | some cs =>
        rw [q] at e; cases e
        cases h with
        | cons h t =>
          cases h
          rw [bools_is t q]; rfl
    · cases e
theorem boolsOf_map : ∀ bs : List Bool, boolsOf (bs.map PyData.bool) = some bs
  | [] => rfl
  | b :: bs => by
    show (boolsOf (bs.map PyData.bool)).map (b :: ·) = _
    rw [boolsOf_map bs]; rfl
def bAll (p : Dv) : Rs R := match p.2 with
  | .list ds => match boolsOf ds with
    | some bs => sc (.bool (bs.all id))
    | none => .bad
  | _ => .bad
def bAny (p : Dv) : Rs R := match p.2 with
  | .list ds => match boolsOf ds with
    | some bs => sc (.bool (bs.any id))
    | none => .bad
  | _ => .bad
theorem bAll_no : ∀ p e x, bAll p ≠ .ex e x := fun p e x h => by
  unfold bAll at h
  split at h
  · split at h <;> cases h
  · cases h
theorem bAny_no : ∀ p e x, bAny p ≠ .ex e x := fun p e x h => by
  unfold bAny at h
  split at h
  · split at h <;> cases h
  · cases h
theorem cr_gall (hc : X.calm = true) : CallR X (.builtin "all") (rGN X.K (g1 bAll)) := callr1 fun pins s σ H x u Q H0 F n d I rx fz bs vx hp => by
  unfold bAll at hp
  dsimp only at hp
  split at hp
  · rename_i ds
    split at hp
    · rename_i cs hb
      obtain ⟨a, xs, rfl, hs, hi⟩ := vw_list fz vx
      have := bools_is hi hb
      subst this
      exact cr_all hc pins s σ H [.ref a] [u] Q I (.cons rx .nil) ⟨a, cs, rfl, hs, sc_ok hp fz (.bl _)⟩
    · exact hp.elim
  · exact hp.elim
theorem cr_gany (hc : X.calm = true) : CallR X (.builtin "any") (rGN X.K (g1 bAny)) := callr1 fun pins s σ H x u Q H0 F n d I rx fz bs vx hp => by
  unfold bAny at hp
  dsimp only at hp
  split at hp
  · rename_i ds
    split at hp
    · rename_i cs hb
      obtain ⟨a, xs, rfl, hs, hi⟩ := vw_list fz vx
      have := bools_is hi hb
      subst this
      exact cr_any hc pins s σ H [.ref a] [u] Q I (.cons rx .nil) ⟨a, cs, rfl, hs, sc_ok hp fz (.bl _)⟩
    · exact hp.elim
  · exact hp.elim
def flatD : PyData → Bool
  | .none => true
  | .bool _ => true
  | .int _ => true
  | .str _ => true
  | _ => false
def eqF : PyData → PyData → Bool
  | .none, .none => true
  | .bool a, .bool b => a == b
  | .bool a, .int b => (if a then 1 else 0) == b
  | .int a, .bool b => a == (if b then 1 else 0)
  | .int a, .int b => a == b
  | .str a, .str b => a == b
  | _, _ => false
def inF (d : PyData) (ds : List PyData) : Bool := ds.any fun y => eqF y d
def seqL : PyData → Option (List PyData)
  | .list ds => some ds
  | .tuple ds => some ds
  | _ => none
theorem vw_seqL {K : PySem.W.Frag} {H0 F H : Hp} {v : V} {n : Bool} {d : PyData} {ds : List PyData} (fz : Same F H) (h : Vw K H0 F H v (n, d)) (e : seqL d = some ds) : ∃ a xs, v = .ref a ∧ (SqL K H a xs ∨ SqT K H a xs) ∧ IsA K H0 n F xs ds := by
  unfold seqL at e
  split at e
  · cases e
    obtain ⟨a, xs, h1, h2, h3⟩ := vw_list fz h
    exact ⟨a, xs, h1, .inl h2, h3⟩
  · cases e
    obtain ⟨a, xs, h1, _, h2, h3⟩ := vw_tup fz h
    exact ⟨a, xs, h1, .inr h2, h3⟩
  · cases e
inductive Fl : V → PyData → Prop
  | non : Fl .non .none
  | bl (b : Bool) : Fl (.bl b) (.bool b)
  | int (i : Int) : Fl (.int i) (.int i)
  | str (x : Str) : Fl (.str x) (.str x)
theorem fl_of {K : PySem.W.Frag} {H0 F : Hp} {n : Bool} {v : V} {d : PyData} (h : Is K H0 n F v d) (f : flatD d = true) : Fl v d := by
  cases h with
  | non => exact .non
  | bl b => exact .bl b
  | int i => exact .int i
  | str x => exact .str x
  | lst _ _ _ => cases f
  | tup _ _ => cases f
  | dk _ _ _ => cases f
  | dt _ _ _ => cases f
  | dl _ _ _ => cases f
  | exc _ _ _ _ => cases f
theorem Fl.flat {v : V} {d : PyData} (h : Fl v d) : flatV v = true := by cases h <;> rfl
theorem Fl.eq {v u : V} {d e : PyData} (h : Fl v d) (g : Fl u e) : eqV v u = eqF d e := by cases h <;> cases g <;> rfl
theorem fl_all {K : PySem.W.Frag} {H0 F : Hp} {n : Bool} {u : V} {e : PyData} (g : Fl u e) : ∀ {xs : List V} {ds : List PyData}, IsA K H0 n F xs ds → ds.all flatD = true → xs.all flatV = true ∧ inV u xs = inF e ds
  | _, _, .nil, _ => ⟨rfl, rfl⟩
  | _, _, .cons h t, f => by
    simp only [List.all_cons, Bool.and_eq_true] at f
    obtain ⟨h1, h2⟩ := fl_all g t f.2
    have hf := fl_of h f.1
    refine ⟨by simp only [List.all_cons, hf.flat, h1, Bool.and_self], ?_⟩
    unfold inV inF at h2 ⊢
    simp only [List.any_cons, h2, hf.eq g]
def gInN (neg : Bool) : G2 := fun p q => match seqL q.2 with
  | some ds => grd (flatD p.2 && ds.all flatD) (sc (.bool (if neg = true then !inF p.2 ds else inF p.2 ds)))
  | none => .bad
theorem gInN_no {neg : Bool} : ∀ p q e x, gInN neg p q ≠ .ex e x := fun p q e x h => by
  unfold gInN at h
  split at h
  · exact absurd h (grd_no fun z => nomatch z)
  · cases h
theorem vw_flat {K : PySem.W.Frag} {H0 F H : Hp} {v : V} {n : Bool} {d : PyData} (h : Vw K H0 F H v (n, d)) (f : flatD d = true) : Is K H0 n F v d := by
  rcases h with h | ⟨_, _, _, _, h, _⟩
  · exact h
  · cases h; cases f
theorem op_gInN {neg : Bool} {op : CmpOp} (ho : OpR X (compareOp op) (rIn X.K neg)) : OpR X (compareOp op) (rG2 X.K (gInN neg)) := opr_mk fun pins s σ H x y v u Q H0 F m n d e I rx ry fz bs vx vy hp => by
  unfold gInN at hp
  dsimp only at hp
  split at hp
  · rename_i ds hs
    obtain ⟨hz, hp⟩ := grd_post hp
    obtain ⟨z1, z2⟩ := Bool.and_eq_true_iff.mp hz
    obtain ⟨a, xs, rfl, h1, h2⟩ := vw_seqL fz vy hs
    have hf := fl_of (vw_flat vx z1) z1
    obtain ⟨h3, h4⟩ := fl_all hf h2 z2
    refine ho pins s σ H x (.ref a) v u Q I rx ry ⟨a, xs, rfl, h1, hf.flat, h3, ?_⟩
    rw [h4]
    have := sc_ok hp fz (.bl _)
    cases neg <;> exact this
  · exact hp.elim
theorem op_gIn : OpR X (compareOp .In) (rG2 X.K (gInN false)) := op_gInN op_in_seq
theorem op_gNotIn : OpR X (compareOp .NotIn) (rG2 X.K (gInN true)) := op_gInN op_notIn_seq
def fEnum (f : FV) : FA := fun env => (f env).bind fun p => match p.2.2 with
  | .list ds => .ok (p.1, (List.range ds.length).zipWith (fun i d => (p.2.1, .tuple [.int (i : Nat), d])) ds)
  | _ => .bad
theorem zip_get {α β : Type} (g : Nat → α → β) : ∀ (ds : List α) (i k : Nat), ((List.range' k ds.length).zipWith g ds)[i]? = (ds[i]?).map (g (k + i))
  | [], i, k => by simp
  | d :: ds, 0, k => by simp [List.range'_succ]
  | d :: ds, i + 1, k => by
    rw [List.length_cons, List.range'_succ, List.zipWith_cons_cons, List.getElem?_cons_succ, zip_get g ds i (k + 1), List.getElem?_cons_succ]
    congr 2; omega
theorem good_enum {K : PySem.W.Frag} {H0 F : Hp} {a : Addr} {xs : List V} {ds : List PyData} {n : Bool} (h : SqL K F a xs) (hi : IsA K H0 n F xs ds) : Good K H0 F (Ite K a) ((List.range ds.length).zipWith (fun i d => (n, PyData.tuple [.int (i : Nat), d])) ds) := fun i F' H' e1 e2 => by
  have hs : SqL K H' a xs := Same.seq (e1.trans e2) h
  have hget := zip_get (fun (i : Nat) (d : PyData) => (n, PyData.tuple [.int (i : Nat), d])) ds i 0
  rw [← List.range_eq_range', Nat.zero_add] at hget
  refine ⟨fun p hp => ?_, fun hl => ⟨xs, hs, by rw [hi.length]; simpa using hl⟩⟩
  rw [hget] at hp
  cases q : ds[i]? with
  | none => rw [q] at hp; cases hp
  | some d =>
    rw [q] at hp; cases hp
    obtain ⟨v, hv, hd⟩ := hi.get q
    refine ⟨⟨xs, v, hs, hv⟩, fun x H3 hy => ?_⟩
    obtain ⟨T, y, rfl, hT, rfl, hx⟩ := hy
    have := hx xs hs
    rw [hv] at this; cases this
    refine ⟨upd F' T (.tup [.int (i : Nat), v]), Ext.alloc e2 hT, .tup upd_same (.cons (.int _) (.cons (hd.to (e1.trans (same_new (same_none e2 hT)))) .nil))⟩
theorem i_enum {tpos p : Pos} {elts : List Expr} {kk : Nat} (hg : Gl X "enumerate") (hm : X.mg "enumerate" = none) (h : DE X W e f) (hs : starEach [e] X.env = [(false, eval e X.env)] := by rfl) (he : starEach [e] X.env = (false, eval e X.env) :: starEach [] X.env := by rfl) :
    DI X W (.Tuple elts kk tpos) (.Call (.Name "enumerate" p) [e] [] pos) (fEnum (st f)) := pi_le (pi_enum hg hm (dad_cons h dad_nil he) hs) fun σ H Q ⟨H0, F0, F, env, r, q⟩ => by
  refine ⟨H0, F0, F, env, r, ?_⟩
  unfold fEnum at q
  unfold fCons
  refine Rs.post_bind.mpr (Rs.post_mono (Rs.post_bind.mp q) (fun p hp => ?_) fun _ _ x => x)
  obtain ⟨e', n, d⟩ := p
  dsimp only at hp
  split at hp
  · rename_i ds
    intro vs F' H' r' hv e1 e2
    cases hv with
    | cons h1 h2 =>
      cases h2
      have h1 : Is X.K H0 n F' _ (.list ds) := h1
      cases h1 with
      | lst hs _ ha => exact ⟨_, _, rfl, Same.seq r'.fz hs, hp _ F' H' r' (good_enum hs ha) e1 e2⟩
  · exact hp.elim
end
end Dn
namespace Dn
open PySem PySem.Spec L2
section
variable {X : Cx} {W : WX} {e a b : Expr} {f fa fb : FE} {pos : Pos}
def fAndV (f : FV) (g : FE) : FE := fun env => (f env).bind fun p => match p.2.2 with
  | .bool true => g p.1
  | .bool false => .ok (p.1, .sh true (.bool false))
  | _ => .bad
def fOrV (f : FV) (g : FE) : FE := fun env => (f env).bind fun p => match p.2.2 with
  | .bool false => g p.1
  | .bool true => .ok (p.1, .sh true (.bool true))
  | _ => .bad
def fNotV (f : FV) : FE := fun env => (f env).bind fun p => match p.2.2 with
  | .bool b => .ok (p.1, .sh true (.bool (!b)))
  | _ => .bad
theorem d_one {op : BoolOp} (h : DE X W a fa) : DE X W (.BoolOp op [a] pos) fa := pe_one h
theorem vw_bl {K : PySem.W.Frag} {H0 F H : Hp} {v : V} {n : Bool} {c : Bool} (h : Vw K H0 F H v (n, .bool c)) : v = .bl c := vw_bool h
theorem d_and {rest : List Expr} (ha : DE X W a fa) (hb : DE X W (.BoolOp .And (b :: rest) pos) fb) : DE X W (.BoolOp .And (a :: b :: rest) pos) (fAndV (rd fa) fb) :=
  pe_le (pe_and ha.v hb) fun σ H Q ⟨H0, F0, F, env, r, h⟩ => by
    refine ⟨H0, F0, F, env, r, ?_⟩
    unfold fAndV at h
    refine Rs.post_mono (Rs.post_bind.mp h) (fun p hp v F1 H1 r1 v1 e1 e2 => ?_) fun _ _ x => x
    obtain ⟨q, n, d⟩ := p
    dsimp only at hp v1 r1
    split at hp
    · refine ⟨true, vw_bl v1, ?_⟩
      rw [if_pos rfl]
      exact ⟨H0, F0, F1, q, r1, Rs.post_mono hp (fun p2 hp2 u F2 H2 r2 e3 e4 => hp2 u F2 H2 r2 (e1.trans e3) (e2.trans e4)) fun _ _ x => x.to e2 e1⟩
    · refine ⟨false, vw_bl v1, ?_⟩
      rw [if_neg (by decide)]
      exact hp (.bl false) F1 H1 ⟨r1, .bl false⟩ e1 e2
    · exact hp.elim
theorem d_or {rest : List Expr} (ha : DE X W a fa) (hb : DE X W (.BoolOp .Or (b :: rest) pos) fb) : DE X W (.BoolOp .Or (a :: b :: rest) pos) (fOrV (rd fa) fb) :=
  pe_le (pe_or ha.v hb) fun σ H Q ⟨H0, F0, F, env, r, h⟩ => by
    refine ⟨H0, F0, F, env, r, ?_⟩
    unfold fOrV at h
    refine Rs.post_mono (Rs.post_bind.mp h) (fun p hp v F1 H1 r1 v1 e1 e2 => ?_) fun _ _ x => x
    obtain ⟨q, n, d⟩ := p
    dsimp only at hp v1 r1
    split at hp
    · refine ⟨false, vw_bl v1, ?_⟩
      rw [if_neg (by decide)]
      exact ⟨H0, F0, F1, q, r1, Rs.post_mono hp (fun p2 hp2 u F2 H2 r2 e3 e4 => hp2 u F2 H2 r2 (e1.trans e3) (e2.trans e4)) fun _ _ x => x.to e2 e1⟩
    · refine ⟨true, vw_bl v1, ?_⟩
      rw [if_pos rfl]
      exact hp (.bl true) F1 H1 ⟨r1, .bl true⟩ e1 e2
    · exact hp.elim
theorem d_not (ha : DE X W a fa) : DE X W (.UnaryOp .Not a pos) (fNotV (rd fa)) :=
  pe_le (pe_not ha.v) fun σ H Q ⟨H0, F0, F, env, r, h⟩ => by
    refine ⟨H0, F0, F, env, r, ?_⟩
    unfold fNotV at h
    refine Rs.post_mono (Rs.post_bind.mp h) (fun p hp v F1 H1 r1 v1 e1 e2 => ?_) fun _ _ x => x
    obtain ⟨q, n, d⟩ := p
    dsimp only at hp v1 r1
    split at hp
    · exact ⟨_, vw_bl v1, hp _ F1 H1 ⟨r1, .bl _⟩ e1 e2⟩
    · exact hp.elim
/-- a new list, as it may be looked at -/
def gRep : G2 := fun p q => match p, q.2 with
  | (true, .list ds), .int k => grd (small k && decide (ds.length * k.toNat ≤ 1000000)) (.ok (.nw true (List.replicate k.toNat ds).flatten))
  | _, _ => .bad
theorem gRep_no : ∀ p q e x, gRep p q ≠ .ex e x := fun p q e x h => by
  unfold gRep at h
  split at h
  · exact absurd h (grd_no fun z => nomatch z)
  · cases h
theorem isA_rep {K : PySem.W.Frag} {H0 F : Hp} {n : Bool} {xs : List V} {ds : List PyData} (h : IsA K H0 n F xs ds) : ∀ k : Nat, IsA K H0 n F (List.replicate k xs).flatten (List.replicate k ds).flatten
  | 0 => .nil
  | k + 1 => by
    rw [List.replicate_succ, List.replicate_succ, List.flatten_cons, List.flatten_cons]
    exact h.append (isA_rep h k)
theorem op_gRep : OpR X (binaryOp .Mult) (rG2 X.K gRep) := opr_mk fun pins s σ H x y v u Q H0 F m n d e I rx ry fz bs vx vy hp => by
  unfold gRep at hp
  dsimp only at hp
  split at hp
  · rename_i d0 ds k h1
    obtain ⟨rfl, rfl⟩ := Prod.mk.inj h1
    obtain ⟨hz, hp⟩ := grd_post hp
    obtain ⟨z1, z2⟩ := Bool.and_eq_true_iff.mp hz
    have z2 := of_decide_eq_true z2
    obtain ⟨z3, z4⟩ := small_iff z1
    obtain rfl := vw_int vy
    have key : ∃ l xs, x = .ref l ∧ H l = some (.lst xs) ∧ IsA X.K H0 true F xs ds := by
      rcases vx with vx | ⟨l, xs, es, rfl, h3, h4, _, h5⟩
      · cases vx with
        | lst hs hw ha => exact ⟨_, _, rfl, fz _ _ (hw rfl).2, ha⟩
      · cases h3
        exact ⟨l, xs, rfl, h4, h5⟩
    obtain ⟨l, xs, rfl, h3, h4⟩ := key
    refine op_rep pins s σ H (.ref l) (.int k) v u Q I rx ry ⟨l, k, xs, rfl, rfl, h3, by omega, by omega, ?_, fun p hp0 => ?_⟩
    · rw [h4.length]; exact million' z2
    · refine hp (.ref p) F _ (Ext.allocH fz hp0) ⟨p, _, rfl, hp0, same_none fz hp0, upd_same, isA_rep h4 _⟩
  · exact hp.elim
section
variable {k : Nat} {fA : Addr} {fd : FuncData} {ps ks : List Str} {S : SF} {x : Str} {p : Pos} {es : List Expr} {ga gk : FA}
/-- the arguments in hand, then the def's promise -/
def tCallG (K : PySem.W.Frag) (mg : Str → Option Value) (W : WX) (n : Nat) (S : SF) (f : FA) : TE := fun σ H Q => tAD K mg W f σ H fun vs H' => spD K mg n S vs H' Q fun cls d H'' => W cls d σ H''
theorem pe_callG (G : FnG X.prog X.w X.K X.mg X.base k fA fd ps S) (hr : Room k X.A) (hgd : X.A.guards = some []) (tk : Takes X W) (hg : Gl X x) (hm : X.mg x = some (.ref fA)) (hk : PySem.W.keepIn X.K (.ref fA) = true) (hb : Binds X.K fd ps [])
    (ha : DAD X W (e :: es) ga) (hdb : (x == ("__debug__" : Str)) = false := by decide) (he : starEach (e :: es) X.env = (false, eval e X.env) :: starEach es X.env := by rfl) (hpl : (backTo pos (starEach es X.env)).any (·.1) = false := by rfl) :
    PE X (.Call (.Name x p) (e :: es) [] pos) (tCallG X.K X.mg W ps.length S ga) := by
  refine ⟨fun pins s σ H Q I h => wpAny_Call_Name_kw (ld_glob I hg hm ?_ hdb)⟩
  refine PySem.W.callWith_K (h₀ := X.base) I.ok.mod.kin hk (thn (ha.run pos pins s σ H _ I h) fun us s1 ⟨vs, H1, I1, rv, q⟩ => ?_) he hpl
  have hl : us.length = ps.length := by rw [← rv.length]; exact let ⟨_, _, z, _⟩ := q; z
  have bd := hb s1 us I1.kIn (by rw [List.append_nil]; exact hl)
  rw [List.append_nil] at bd
  exact ⟨I1.kIn, run_g G hr hgd tk bd I1 rv q⟩
/-- f(e, .., k = v, ..), the keywords in the def's order: np positional arguments, nk keywords -/
def fCallK (np nk : Nat) (S : SF) (f g : FA) : FE := fun env => (f env).bind fun p => (g p.1).bind fun q => grd (decide (p.2.length = np) && decide (q.2.length = nk)) (callR q.1 (S ((p.2 ++ q.2).map fun d => d.2)))
abbrev DK (X : Cx) (W : WX) (kws : List Keyword) (f : FA) : Prop := PK X kws (tAD X.K X.mg W f)
theorem pk_le {kws : List Keyword} {t t' : TA} (h : PK X kws t) (l : ∀ σ H Q, t' σ H Q → t σ H Q) : PK X kws t' := ⟨fun pos pins s σ H Q I q => h.run pos pins s σ H Q I (l σ H Q q)⟩
theorem dk_nil : DK X W [] fNil := pk_le pk_nil fun σ H Q ⟨H0, F0, F, env, r, h⟩ => h [] F H r .nil (Same.refl H) (Same.refl F)
theorem dk_cons {nm : Option Str} {kpos : Pos} {kws : List Keyword} {g : FA} (h : DE X W e f) (t : DK X W kws g) : DK X W (⟨nm, e, kpos⟩ :: kws) (fCons (st f) g) :=
  pk_le (pk_cons h.d t) fun σ H Q ⟨H0, F0, F, env, r, h⟩ => by
    refine ⟨H0, F0, F, env, r, ?_⟩
    unfold fCons at h
    refine Rs.post_mono (Rs.post_bind.mp h) (fun p hp v F1 H1 r1 v1 e1 e2 => ?_) fun _ _ x => x
    refine ⟨H0, F0, F1, p.1, r1, ?_⟩
    refine Rs.post_mono (Rs.post_bind.mp hp) (fun q hq vs F2 H2 r2 v2 e3 e4 => ?_) fun _ _ x => x.to e2 e1
    exact hq (v :: vs) F2 H2 r2 (.cons (v1.to e4) v2) (e1.trans e3) (e2.trans e4)
structure KB (K : PySem.W.Frag) (fd : FuncData) (ps ks : List Str) (np : Nat) : Prop where
  to : ∀ (s : Shared) (us ws : List Value), K.In s.heap → us.length = np → ws.length = ks.length → BindsTo s fd ⟨us, ks.zip ws⟩ (ps.zip (us ++ ws))
  len : ps.length = np + ks.length
theorem all2_app {α β : Type} {P : α → β → Prop} : ∀ {as cs : List α} {bs ds : List β}, All2 P as bs → All2 P cs ds → All2 P (as ++ cs) (bs ++ ds)
  | _, _, _, _, .nil, h => h
  | _, _, _, _, .cons h t, h' => .cons h (all2_app t h')
theorem d_callK {np nk : Nat} {kws : List Keyword} (G : FnG X.prog X.w X.K X.mg X.base k fA fd ps S) (hr : Room k X.A) (hgd : X.A.guards = some []) (tk : Takes X W) (hg : Gl X x) (hm : X.mg x = some (.ref fA)) (hk : PySem.W.keepIn X.K (.ref fA) = true) (hb : KB X.K fd ps ks np) (hn : ks.length = nk)
    (ha : DAD X W (e :: es) ga) (hkw : DK X W kws gk) (hall : (backToKw pos (keywordEach kws X.env)).all (·.1.isSome) = true := by rfl) (hks : (backToKw pos (keywordEach kws X.env)).filterMap (·.1) = ks := by rfl)
    (hdb : (x == ("__debug__" : Str)) = false := by decide) (he : starEach (e :: es) X.env = (false, eval e X.env) :: starEach es X.env := by rfl)
    (hpl : ((backTo pos (starEach (e :: es) X.env)).any (·.1) || (backToKw pos (keywordEach kws X.env)).any (·.1.isNone)) = false := by rfl) :
    DE X W (.Call (.Name x p) (e :: es) kws pos) (fCallK np nk S ga gk) := by
  refine ⟨fun pins s σ H Q I h => wpAny_Call_Name_kw (ld_glob I hg hm ?_ hdb)⟩
  obtain ⟨H0, F0, F, env, r, h⟩ := h
  unfold fCallK at h
  have h1 : tAD X.K X.mg W ga σ H fun vs H1 => tAD X.K X.mg W gk σ H1 fun zs H2 => vs.length = np ∧ zs.length = nk ∧ spD X.K X.mg ps.length S (vs ++ zs) H2 Q fun cls d H3 => W cls d σ H3 := by
    refine ⟨H0, F0, F, env, r, ?_⟩
    refine Rs.post_mono (Rs.post_bind.mp h) (fun p hp vs F1 H1 r1 ha e1 e2 => ?_) fun _ _ z => z
    refine ⟨H0, F0, F1, p.1, r1, ?_⟩
    refine Rs.post_mono (Rs.post_bind.mp hp) (fun q hq zs F2 H2 r2 hb2 e3 e4 => ?_) fun _ _ z => z.to e2 e1
    obtain ⟨hz, hq⟩ := grd_post hq
    obtain ⟨z1, z2⟩ := Bool.and_eq_true_iff.mp hz
    have z1 := of_decide_eq_true z1
    have z2 := of_decide_eq_true z2
    have ha2 : All2 (IsV X.K H0 F2 H2) (vs ++ zs) (p.2 ++ q.2) := all2_app (ha.mono fun _ _ z => Is.to z e4) hb2
    refine ⟨by rw [ha.length]; exact z1, by rw [hb2.length]; exact z2, F2, (p.2 ++ q.2).map fun d => d.2, ?_, r2.fz, isA_weak ha2, ?_⟩
    · rw [List.length_append, ha.length, hb2.length, z1, z2, hb.len, hn]
    unfold callR at hq
    cases z : S ((p.2 ++ q.2).map fun d => d.2) with
    | bad => rw [z] at hq; exact hq.elim
    | ok res =>
      rw [z] at hq
      cases res with
      | sh n d => exact fun v F' H' ex hv => hq v F' H' ((hv.base r2.base).rel r2 ex) ((e1.trans e3).trans ex.h) ((e2.trans e4).trans ex.f)
      | nw n d => exact fun v F' H' ex hv => hq v F' H' ((hv.base r2.base).rel r2 ex) ((e1.trans e3).trans ex.h) ((e2.trans e4).trans ex.f)
      | own i => exact hq.elim
    | ex e x =>
      rw [z] at hq
      exact fun cls dO H' e5 hx => hq cls dO F2 H' (r2.heap e5) ((e1.trans e3).trans e5) (e2.trans e4) hx
  refine PySem.W.callWith_KW (h₀ := X.base) I.ok.mod.kin hk hall (thn (ha.run pos pins s σ H _ I h1) fun us s1 ⟨vs, H1, I1, rv, q⟩ => ?_) hpl he
  refine thn (hkw.run pos pins s1 σ H1 _ I1 q) fun ws s2 ⟨zs, H2, I2, rz, z1, z2, q2⟩ => ⟨I2.kIn, ?_⟩
  rw [hks]
  exact run_g G hr hgd tk (hb.to s2 us ws I2.kIn (by rw [← rv.length]; exact z1) (by rw [← rz.length, z2, hn])) I2 (rv.append rz) q2
end
end
end Dn
namespace Dn
open PySem PySem.Spec L2
theorem Fun_kb {K : PySem.W.Frag} {x qual : Str} {st : Stmt} {f : Addr} {fd : FuncData} {ps ks : List Str} {np : Nat} (F : Fun K x qual st f fd) (hl : ps.length = np + ks.length)
    (h : ∀ (kV doc pm : Value) (an : Option Addr) (cdv ct : Value) (us ws : List Value), us.length = np → ws.length = ks.length → bindArgs (PySem.W.fnOf x qual (defArgs st) (defBody st) (defScope st) .none kV doc pm an cdv ct) ⟨us, ks.zip ws⟩ = pure (ps.zip (us ++ ws))) : KB K fd ps ks np := by
  obtain ⟨oc, od, kV, doc, pm, an, cdv, ct, osl, rfl, lk, hcd⟩ := F.ex
  exact ⟨fun s us ws _ h1 h2 => .of_eq (h kV doc pm an cdv ct us ws h1 h2), hl⟩
section
variable {K : PySem.W.Frag} {H0 F0 F H : Hp} {env : Env} {σ : St} {i : Nat} {s : Sl} {v : V}
/-- what is told of one slot more comes to a slot -/
theorem Rel.putS (r : Rel K H0 F0 (env ++ [some s]) (σ ++ [some v]) F H) : Rel K H0 F0 (env.set i (some s)) (σ.set i (some v)) F H := by
  obtain ⟨fp, r⟩ := r
  have hl : σ.length = env.length := by have := r.len; simpa using this
  obtain ⟨u, hu, h2⟩ := r.sl env.length _ app_get
  rw [← hl, app_get] at hu; cases hu
  refine ⟨fun j a => if j = i then fp env.length a else j < env.length ∧ fp j a, ⟨r.fz, r.base, by simp [hl], fun j t q => ?_, fun j k a h1 h2 => ?_, fun j a h1 => ?_, r.new, r.f0⟩⟩
  · rcases set_get q with ⟨hj, hx⟩ | ⟨hj, hx⟩
    · have hs : s = t := Option.some.inj hx
      subst hs
      have hlt : j < σ.length := by have := (List.getElem?_eq_some_iff.mp q).1; rw [hl]; simpa using this
      refine ⟨v, by rw [hj] at hlt ⊢; exact List.getElem?_set_self hlt, ?_⟩
      have e : (fun a => if j = i then fp env.length a else j < env.length ∧ fp j a) = fp env.length := by funext a; rw [if_pos hj]
      rw [e]; exact h2
    · obtain ⟨u, g1, g2⟩ := r.sl j t (app_left hx)
      have hlt : j < env.length := (List.getElem?_eq_some_iff.mp hx).1
      have e : (fun a => if j = i then fp env.length a else j < env.length ∧ fp j a) = fp j := by funext a; simp [hj, hlt]
      refine ⟨u, ?_, by rw [e]; exact g2⟩
      rw [List.getElem?_append_left (by omega)] at g1
      rw [List.getElem?_set_ne (Ne.symm hj)]; exact g1
  · by_cases z1 : j = i <;> by_cases z2 : k = i
    · rw [z1, z2]
    · simp only [if_pos z1, if_neg z2] at h1 h2
      have := r.dis _ _ a h1 h2.2
      omega
    · simp only [if_neg z1, if_pos z2] at h1 h2
      have := r.dis _ _ a h2 h1.2
      omega
    · simp only [if_neg z1, if_neg z2] at h1 h2
      exact r.dis _ _ a h1.2 h2.2
  · by_cases z1 : j = i
    · simp only [if_pos z1] at h1
      exact r.out _ a h1
    · simp only [if_neg z1] at h1
      exact r.out _ a h1.2
/-- what a call gives, a list with new lists in it, all held by one slot -/
theorem Rel.putRl {F' H' : Hp} {ds : List PyData} (r : Rel K H0 F0 env σ F H) (ex : Ext F H F' H') (h : VRes K H H F' H' v (.nw true ds)) : Rel K H0 F0 (env.set i (some (.rl ds))) (σ.set i (some v)) F H' := by
  obtain ⟨p, xs, rfl, h1, h2, h3, h4⟩ := h
  obtain ⟨fp, rf⟩ := id (r.heap ex.h)
  obtain ⟨fp0, rf0⟩ := id r
  have fnone : ∀ a, H a = none → F a = none := fun a z => same_none r.fz z
  have hnone : ∀ a, H a = none → H0 a = none := fun a z => same_none r.base z
  have r2 : RelF K H0 F0 env σ F H' fp0 := rf0.grow ex.h (Same.refl F) (r.fz.trans ex.h) (fun i a z => (rf0.out i a z).1) fun _ z => .inl z
  have hnew : ∀ a, F' a ≠ none → F a = none → H a = none := fun a z1 z2 => (ex.new a z1).resolve_left fun z => z z2
  refine Rel.putS ⟨_, r2.push (g := fun a => (F' a ≠ none ∧ F a = none) ∨ a = p) ⟨p, xs, F', rfl, h3, .inr rfl, h2, ex.f, ex.fh, fun a z => ?_, ?_⟩ (fun j a _ ha z => ?_) fun a z => ?_⟩
  · cases q : F a with
    | none => exact .inr (.inl ⟨z, q⟩)
    | some o => exact .inl fun z => nomatch z
  · exact IsA.le ⟨Same.refl F', id, fun _ a _ z => fnone a z⟩ h4
  · have : H a = none := z.elim (fun y => hnew a y.1 y.2) fun y => by rw [y]; exact h1
    exact (rf0.out j a ha).2.2 this
  · have hz : H a = none := z.elim (fun y => hnew a y.1 y.2) fun y => by rw [y]; exact h1
    refine ⟨fnone a hz, hnone a hz, ?_⟩
    rcases z with y | y
    · exact same_ne ex.fh y.1
    · rw [y, h3]; exact fun z => nomatch z
end
section
variable {X : Cx} {W : WX} {e : Expr} {pos pos' : Pos} {x : Str} {S : SF} {ga : FA} {n : Nat}
/-- x = f(..), x to hold the list and the lists in it -/
def fCallRl (i : Nat) (S : SF) (f : FA) : FS := fun env => (f env).bind fun p => match S (p.2.map fun d => d.2) with
  | .ok (.nw true ds) => .ok (.nx (p.1.set i (some (.rl ds))))
  | .ex _ x => .ex p.1 x
  | _ => .bad
theorem s_callRl (i : Nat) (hlen : ∀ ds, ds.length ≠ n → S ds = .bad) (he : PE X e (tCallG X.K X.mg W n S ga)) (hN : X.N.Nodup) (hi : X.N[i]? = some x := by rfl) (hx : L2.Loc X.env.scope x := by first | exact Or.inl rfl | exact Or.inr rfl) (hs : swapsWith e (some (.Name x pos')) pos.line X.env = pure false := by rfl)
    (hf : X.fn x = true ∨ X.env.scope.names.lookup x = some .local := by first | exact .inl rfl | exact .inr rfl) : DS X W (.Assign [.Name x pos'] e pos) (fCallRl i S ga) :=
  ps_le (ps_set hN hi hx he hs hf) fun D σ H ⟨H0, F0, F, env, r, q⟩ => by
    refine ⟨H0, F0, F, env, r, ?_⟩
    unfold fCallRl at q
    refine Rs.post_mono (Rs.post_bind.mp q) (fun p hp vs F1 H1 r1 ha e1 e2 => ?_) fun _ _ z => z.p (Same.refl F)
    have hS : S (p.2.map fun d => d.2) ≠ .bad := fun z => by rw [z] at hp; exact hp.elim
    have hl : (p.2.map fun d => d.2).length = n := by
      by_cases y : (p.2.map fun d => d.2).length = n
      · exact y
      · exact absurd (hlen _ y) hS
    refine ⟨F1, p.2.map fun d => d.2, by rw [ha.length]; simpa using hl, r1.fz, isA_weak ha, ?_⟩
    cases z : S (p.2.map fun d => d.2) with
    | bad => exact absurd z hS
    | ok res =>
      rw [z] at hp
      cases res with
      | sh n d => exact hp.elim
      | nw n d =>
        cases n with
        | true => exact fun v F' H' ex hv => hp _ F1 H' (r1.putRl ex hv) e2
        | false => exact hp.elim
      | own i => exact hp.elim
    | ex e x =>
      rw [z] at hp
      exact fun cls dO H' e3 hx => hp cls dO σ F1 H' (r1.heap e3) e2 hx
def allL (ds : List PyData) : Bool := ds.all fun d => match d with
  | .list es => decide (es.length ≤ 1000)
  | _ => false
def fRows (i j : Nat) : FS := fun env => match env[i]? with
  | some (some (.rl ds)) => grd (allL ds && (decide (ds.length ≤ 1000) && decide (j < env.length))) (.ok (.nx ((env.set i none).set j none)))
  | _ => .bad
theorem allL_list {K : PySem.W.Frag} {F G : Hp} {xs : List V} {ds : List PyData} (h : IsA K F true G xs ds) (f : allL ds = true) : ∀ y ∈ xs, ∃ a zs, y = .ref a ∧ F a = none ∧ G a = some (.lst zs) ∧ zs.length ≤ 1000 := by
  induction ds generalizing xs with
  | nil => cases h; exact fun y hy => by cases hy
  | cons d ds ih =>
    unfold allL at f
    rw [List.all_cons, Bool.and_eq_true] at f
    cases h with
    | cons h t =>
      intro y hy
      rcases List.mem_cons.mp hy with rfl | hy
      · cases h with
        | lst hs hw ha => exact ⟨_, _, rfl, (hw rfl).1, (hw rfl).2, by rw [ha.length]; exact of_decide_eq_true f.1⟩
        | non => cases f.1
        | bl b => cases f.1
        | int b => cases f.1
        | str b => cases f.1
        | tup _ _ => cases f.1
        | dk _ _ _ => cases f.1
        | dt _ _ _ => cases f.1
        | dl _ _ _ => cases f.1
        | exc _ _ _ _ => cases f.1
      · exact ih t f.2 y hy
theorem s_rows (i j : Nat) {told row : Str} {c : Int} {cj : Nat} {p1 p2 p3 p4 p5 p6 p7 p8 : Pos} (hij : i ≠ j) (hp : PassesOwn (model X.prog X.w) X.A X.env X.xe) (hc : X.calm = true) (hN : X.N.Nodup)
    (hi : X.N[i]? = some told := by rfl) (hv : Vis X.env.scope told := by first | exact Or.inl rfl | exact Or.inr (Or.inl rfl) | exact Or.inr (Or.inr rfl)) (hd : (told == ("__debug__" : Str)) = false := by decide) (hcd : (told == ("__classdict__" : Str)) = false := by decide)
    (hj : X.N[j]? = some row := by rfl) (hx : L2.Loc X.env.scope row := by first | exact Or.inl rfl | exact Or.inr rfl) (hf : X.fn row = true ∨ X.env.scope.names.lookup row = some .local := by first | exact .inl rfl | exact .inr rfl)
    (hv2 : Vis X.env.scope row := by first | exact Or.inl rfl | exact Or.inr (Or.inl rfl) | exact Or.inr (Or.inr rfl)) (hd2 : (row == ("__debug__" : Str)) = false := by decide) (hcd2 : (row == ("__classdict__" : Str)) = false := by decide)
    (hsw : swapsWith (.Call (.Attribute (.Name row p3) "append" p4) [.Constant (.int c) cj p5] [] p6) none p7.line X.env = pure false := by rfl)
    (h1 : attributeBase (.Name row p3) "append" X.env (eval (.Name row p3) X.env) = eval (.Name row p3) X.env := by rfl)
    (h2 : (((backTo p6 (starEach [.Constant (.int c) cj p5] X.env)).all fun x => !x.1) && (backToKw p6 (keywordEach [] X.env)).all (fun x => x.1.isSome) && decide (([.Constant (.int c) cj p5] : List Expr).length + ([] : List Keyword).length + (if ([] : List Keyword).isEmpty = true then 0 else 1) < 30)) = true := by rfl)
    (h3 : (p4.endLine == p6.line) = true := by rfl) (h4 : starEach [.Constant (.int c) cj p5] X.env = (false, eval (.Constant (.int c) cj p5) X.env) :: starEach [] X.env := by rfl) (h5 : (backTo p6 (starEach [] X.env)).any (fun x => x.1) = false := by rfl)
    (hs : ∀ x, foldedSetIterable (.Name told p2) X.env x = pure x := by intro _; rfl) :
    DS X W (.For (.Name row p1) (.Name told p2) [.Expr (.Call (.Attribute (.Name row p3) "append" p4) [.Constant (.int c) cj p5] [] p6) p7] [] p8) (fRows i j) :=
  ps_le (ps_for hp hc (pi_list (pe_var hi hv hd hcd)) (pg_name hN hj hx hf)
    (pss_one (ps_expr (pe_bm PySem.F.plainAttrs_list PySem.F.slot_list_append PySem.F.type_list_append mt_append (pe_var hj hv2 hd2 hcd2) (pa_cons pe_int pa_nil h4) h1 h2 h3 h4 h5) hsw)) hs) fun D σ H ⟨H0, F0, F, env, r, q⟩ => by
    unfold fRows at q
    split at q
    · rename_i ds h0
      obtain ⟨hz, q⟩ := grd_post q
      obtain ⟨z1, z2⟩ := Bool.and_eq_true_iff.mp hz
      obtain ⟨z2, z3⟩ := Bool.and_eq_true_iff.mp z2
      have z2 := of_decide_eq_true z2
      have z3 := of_decide_eq_true z3
      obtain ⟨fp, rf⟩ := id r
      obtain ⟨v, hvv, p, xs, G, rfl, k1, k2, k3, k4, k5, k6, k7⟩ := rf.sl i _ h0
      have hrows := allL_list k7 z1
      have hlen : xs.length ≤ 1000 := by rw [k7.length]; exact z2
      have rowR : ∀ a zs, F a = none → G a = some (.lst zs) → fp i a ∧ a ≠ p := fun a zs y1 y2 => ⟨(k6 a (some_ne y2)).resolve_left fun z => z y1, fun z => by rw [z, k3] at y2; cases y2⟩
      have hjl : j < σ.length := by rw [rf.len]; exact z3
      refine ⟨.ref p, hvv, p, rfl, ⟨xs, .inl (.inl k1)⟩, fun k m σ' H' => m = xs.length - k ∧ σ'.length = σ.length ∧ (∀ i', i' ≠ j → σ'[i']? = σ[i']?) ∧ (∀ a, ¬ (fp i a ∧ a ≠ p) → H' a = H a) ∧ ∀ y ∈ xs, ∃ a zs, y = .ref a ∧ (fp i a ∧ a ≠ p) ∧ H' a = some (.lst zs) ∧ zs.length ≤ 1000 + k,
        ⟨xs.length, rfl, rfl, fun _ _ => rfl, fun _ _ => rfl, fun y hy => ?_⟩, fun k m σ' H' ⟨em, l1, l2, l3, l4⟩ => ?_⟩
      · obtain ⟨a, zs, y1, y2, y3, y4⟩ := hrows y hy
        exact ⟨a, zs, y1, rowR a zs y2 y3, k5 _ _ y3, y4⟩
      · have hp' : H' p = some (.lst xs) := by rw [l3 p fun z => z.2 rfl]; exact k1
        by_cases hk : k < xs.length
        · refine .inr ⟨⟨xs, xs[k], .inl (.inl hp'), List.getElem?_eq_getElem hk⟩, fun σ3 H3 => σ3.length = σ.length ∧ (∀ i', i' ≠ j → σ3[i']? = σ[i']?) ∧ (∀ a, ¬ (fp i a ∧ a ≠ p) → H3 a = H a) ∧ ∀ y ∈ xs, ∃ a zs, y = .ref a ∧ (fp i a ∧ a ≠ p) ∧ H3 a = some (.lst zs) ∧ zs.length ≤ 1000 + (k + 1),
            fun σ3 H3 hn => ⟨xs.length - (k + 1), by omega, rfl, hn⟩, fun x H3 hy => ?_⟩
          obtain ⟨rfl, hy⟩ := hy
          have hxk := hy xs (.inl (.inl hp'))
          rw [List.getElem?_eq_getElem hk] at hxk
          have hmem : x ∈ xs := by rw [← Option.some.inj hxk]; exact List.getElem_mem hk
          obtain ⟨a, zs, rfl, y1, y2, y3⟩ := l4 x hmem
          refine ⟨.ref a, List.getElem?_set_self (by rw [l1]; exact hjl), .inl ⟨rfl, zs, .inl (.inl y2)⟩, a, zs, .int c, rfl, rfl, y2, million (by omega), ?_⟩
          refine ⟨by simpa using l1, fun i' hi' => by rw [List.getElem?_set_ne (Ne.symm hi')]; exact l2 i' hi', fun b hb => ?_, fun y hy2 => ?_⟩
          · rw [upd_ne fun z => hb (by rw [z]; exact y1)]; exact l3 b hb
          · obtain ⟨b, ws, w1, w2, w3, w4⟩ := l4 y hy2
            by_cases z : b = a
            · subst z
              rw [y2] at w3; cases w3
              exact ⟨b, _, w1, w2, upd_same, by simp; omega⟩
            · exact ⟨b, ws, w1, w2, by rw [upd_ne z]; exact w3, by omega⟩
        · refine .inl ⟨⟨xs, .inl (.inl hp'), by omega⟩, ?_⟩
          have r1 := rf.scratch (H' := H') (i := i) fun a ha => l3 a fun z => ha z.1
          refine q σ' F H' (Rel.sub ⟨_, r1⟩ (by simp [l1, rf.len]) fun i' t ht => ?_) (Same.refl F)
          rcases set_get ht with ⟨_, z⟩ | ⟨w1, w2⟩
          · cases z
          · exact .inl ⟨w2, l2 i' w1⟩
    · exact q.elim
end
end Dn
namespace Dn
open PySem PySem.Spec L2
section
variable {β : Type} {h : HX β} {env e : Env} {n m : Bool} {d : PyData} {ds : List PyData} {f fa fb : FE} {v va vb : FV} {t u : FT} {a b : FA} {p q : FS}
@[simp] theorem cR_okR {r : R} {k : R → Rs β} : cR (.ok r) h k = k r := id rfl
def tkK (d : PyData) (k : List Key → Rs β) : Rs β := match tkey d with
  | some ks => k ks
  | none => .bad
@[simp ↓] theorem tkK_enc {ks : List Key} {k : List Key → Rs β} : tkK (encT ks) k = k ks := by unfold tkK; rw [tkey_enc]
@[simp ↓] theorem tkK_1 {i : Int} {k : List Key → Rs β} : tkK (.tuple [.int i]) k = k [.inl i] := id rfl
@[simp ↓] theorem tkK_2 {i j : Int} {k : List Key → Rs β} : tkK (.tuple [.int i, .int j]) k = k [.inl i, .inl j] := id rfl
def enK (d : PyData) (k : List (PyData × PyData) → Rs β) : Rs β := match entsT d with
  | some es => k es
  | none => .bad
@[simp ↓] theorem enK_d {es : List (List Key × PyData)} {k : List (PyData × PyData) → Rs β} : enK (dD es) k = k (es.map fun p => (encT p.1, p.2)) := id rfl
theorem gGet_enc {es : List (List Key × PyData)} {ks : List Key} : gGet (es.map fun p => (encT p.1, p.2)) ks = match valG es ks with
    | some d => .sh (atom d) d
    | none => .sh true .none := by
  unfold gGet; rw [findT_enc] <;> (cases valG es ks <;> rfl)
@[simp ↓] theorem cE_get {k : Env → R → Rs β} : cE (fGet va vb) env h k = cV va env h fun e n d => enK d fun es => cV vb e h fun e m d' => tkK d' fun ks => k e (gGet es ks) := by
  unfold cE cV fGet
  rw [on_bind]
  refine congrArg _ (funext fun p => ?_)
  unfold enK
  dsimp only
  cases entsT p.2.2 with
  | none => rfl
  | some es =>
    dsimp only
    rw [on_bind]
    refine congrArg _ (funext fun p2 => ?_)
    unfold tkK
    dsimp only
    cases tkey p2.2.2 <;> rfl
def cDc (own : List Nat) (g : FG) (t : FT) (fk fv : FV) (xs : List Dv) (e : Env) (h : HX β) (k : Env → R → Rs β) : Rs β := grd (okOwn e own) (on (fDcL own g t fk fv xs (wipeE e own) []) h fun q => k (backE e q.1 own) (.sh false (dD q.2)))
@[simp ↓] theorem cE_dc {own : List Nat} {g : FG} {k : Env → R → Rs β} : cE (fDc own a g t va vb) env h k = cA a env h fun e xs => cDc own g t va vb xs e h k := by
  unfold cE cA cDc fDc
  rw [on_bind]
  refine congrArg _ (funext fun p => ?_)
  rw [on_grd, on_bind]; rfl
/-- one item -/
def dcE (own : List Nat) (g : FG) (t : FT) (fk fv : FV) (n : Bool) (d : PyData) (e : Env) : Rs (Env × Option (List Key × PyData)) :=
  cG g n d e (fun _ _ => .bad) fun e1 => cT t e1 (fun _ _ => .bad) fun b => ifK b (cV fk e1 (fun _ _ => .bad) fun e2 _ dk => cV fv e2 (fun _ _ => .bad) fun e3 _ dv => tkK dk fun ks => cW own e3 fun e4 => .ok (e4, some (ks, dv))) (cW own e1 fun e3 => .ok (e3, none))
theorem putG_new {κ α : Type} [DecidableEq κ] {es : List (κ × α)} {k : κ} {v : α} (z : ∀ p ∈ es, p.1 ≠ k) : putG es k v = es ++ [(k, v)] := by
  unfold putG
  rw [if_neg]
  intro y
  obtain ⟨p, hp, hk⟩ := List.any_eq_true.mp y
  exact z p hp (of_decide_eq_true hk)
theorem fDcL_step {own : List Nat} {g : FG} {x : Dv} {xs : List Dv} {acc : List (List Key × PyData)} {ks : List Key} {dv : PyData} {e0 : Env} (hx : dcE own g t va vb x.1 x.2 e = .ok (e0, some (ks, dv))) (hz : acc.length < 1000000) :
    fDcL own g t va vb (x :: xs) e acc = fDcL own g t va vb xs e0 (putG acc ks dv) := by
  obtain ⟨n, d⟩ := x
  show (noex (g (n, d) e)).bind _ = _
  unfold dcE cG at hx
  dsimp only at hx
  cases q1 : g (n, d) e with
  | bad => rw [q1] at hx; cases hx
  | ex e y => rw [q1] at hx; cases hx
  | ok e1 =>
    rw [q1] at hx
    show (noex (t e1)).bind _ = _
    have hx : cT t e1 (fun _ _ => .bad) (fun b => ifK b (cV va e1 (fun _ _ => .bad) fun e2 _ dk => cV vb e2 (fun _ _ => .bad) fun e3 _ dv => tkK dk fun ks => cW own e3 fun e4 => .ok (e4, some (ks, dv))) (cW own e1 fun e3 => .ok (e3, none))) = .ok (e0, some (ks, dv)) := hx
    unfold cT at hx
    cases q2 : t e1 with
    | bad => rw [q2] at hx; cases hx
    | ex e y => rw [q2] at hx; cases hx
    | ok b =>
      rw [q2] at hx
      cases b with
      | false =>
        have hx : (.ok (wipeE e1 own, none) : Rs (Env × Option (List Key × PyData))) = .ok (e0, some (ks, dv)) := hx
        cases hx
      | true =>
        have hx : cV va e1 (fun _ _ => .bad) (fun e2 _ dk => cV vb e2 (fun _ _ => .bad) fun e3 _ dv => tkK dk fun ks => cW own e3 fun e4 => .ok (e4, some (ks, dv))) = .ok (e0, some (ks, dv)) := hx
        unfold cV at hx
        show (noex (va e1)).bind _ = _
        cases q3 : va e1 with
        | bad => rw [q3] at hx; cases hx
        | ex e y => rw [q3] at hx; cases hx
        | ok p =>
          rw [q3] at hx
          show (noex (vb p.1)).bind _ = _
          have hx : on (vb p.1) (fun _ _ => .bad) (fun p2 => tkK p.2.2 fun ks => cW own p2.1 fun e4 => .ok (e4, some (ks, p2.2.2))) = .ok (e0, some (ks, dv)) := hx
          cases q4 : vb p.1 with
          | bad => rw [q4] at hx; cases hx
          | ex e y => rw [q4] at hx; cases hx
          | ok p2 =>
            rw [q4] at hx
            have hx : tkK p.2.2 (fun ks => cW own p2.1 fun e4 => .ok (e4, some (ks, p2.2.2))) = (.ok (e0, some (ks, dv)) : Rs (Env × Option (List Key × PyData))) := hx
            unfold tkK at hx
            show (match tkey p.2.2 with
              | some k => grd (decide (acc.length < 1000000)) (fDcL own g t va vb xs (wipeE p2.1 own) (putG acc k p2.2.2))
              | none => .bad) = _
            cases q5 : tkey p.2.2 with
            | none => rw [q5] at hx; cases hx
            | some k5 =>
              rw [q5] at hx
              have hx : (.ok (wipeE p2.1 own, some (k5, p2.2.2)) : Rs (Env × Option (List Key × PyData))) = .ok (e0, some (ks, dv)) := hx
              cases hx
              dsimp only
              rw [decide_eq_true hz]; rfl
theorem fDcL_typ {α : Type} {own : List Nat} {g : FG} {c : α → PyData} {kf : α → List Key} {vf : α → PyData} : ∀ (ys : List α) (acc : List (List Key × PyData)), acc.length + ys.length ≤ 1000000 → (∀ y ∈ ys, ∀ p ∈ acc, p.1 ≠ kf y) → (ys.map kf).Nodup →
    (∀ y ∈ ys, dcE own g t va vb n (c y) e = .ok (e, some (kf y, vf y))) → fDcL own g t va vb (wk n (ys.map c)) e acc = .ok (e, acc ++ ys.map fun y => (kf y, vf y))
  | [], acc, _, _, _, _ => by simp [fDcL, wk]
  | y :: ys, acc, hz, hf, hn, hx => by
    rw [List.length_cons] at hz
    rw [List.map_cons, List.nodup_cons] at hn
    rw [show wk n ((y :: ys).map c) = (n, c y) :: wk n (ys.map c) from rfl, fDcL_step (hx y List.mem_cons_self) (by omega), putG_new (hf y List.mem_cons_self)]
    rw [fDcL_typ ys _ (by simp; omega) (fun z hz2 p hp => ?_) hn.2 fun z hz2 => hx z (List.mem_cons_of_mem _ hz2)]
    · simp
    · rcases List.mem_append.mp hp with hp | hp
      · exact hf z (List.mem_cons_of_mem _ hz2) p hp
      · rw [List.mem_singleton.mp hp]
        exact fun q => hn.1 (List.mem_map.mpr ⟨z, hz2, q.symm⟩)
theorem cDc_m {α : Type} {own : List Nat} {g : FG} {k : Env → R → Rs β} {ys : List α} {c : α → PyData} {res : Rs β} (kf : α → List Key) (vf : α → PyData) (hz : ys.length ≤ 1000000) (hw : wipeE e own = e) (ho : okOwn e own = true) (hb : backE e e own = e) (hn : (ys.map kf).Nodup)
    (hx : ∀ y ∈ ys, dcE own g t va vb n (c y) e = .ok (e, some (kf y, vf y))) (hk : k e (.sh false (dD (ys.map fun y => (kf y, vf y)))) = res) :
    cDc own g t va vb (wk n (ys.map c)) e h k = res := by
  have h2 := fDcL_typ ys [] (by simpa using hz) (fun _ _ _ hp => by cases hp) hn hx
  unfold cDc
  rw [ho, hw, h2, List.nil_append]
  show k (backE e e own) _ = res
  rw [hb]; exact hk
def cApp (ps qs : List Dv) (k : List Dv → Rs β) : Rs β := k (ps ++ qs)
@[simp ↓] theorem cApp_n {qs : List Dv} {k : List Dv → Rs β} : cApp [] qs k = k qs := id rfl
@[simp ↓] theorem cApp_c {x : Dv} {ps qs : List Dv} {k : List Dv → Rs β} : cApp (x :: ps) qs k = cApp ps qs fun l => k (x :: l) := id rfl
def cLen (j : Nat) : List Dv → Nat → Rs β → Rs β
  | [], i, r => grd (decide (i = j)) r
  | _ :: ps, i, r => cLen j ps (i + 1) r
@[simp ↓] theorem cLen_n {i j : Nat} {r : Rs β} : cLen j [] i r = grd (decide (i = j)) r := id rfl
@[simp ↓] theorem cLen_c {i j : Nat} {x : Dv} {ps : List Dv} {r : Rs β} : cLen j (x :: ps) i r = cLen j ps (i + 1) r := id rfl
theorem cLen_eq {j : Nat} {r : Rs β} : ∀ (ps : List Dv) (i : Nat), cLen j ps i r = grd (decide (i + ps.length = j)) r
  | [], i => rfl
  | x :: ps, i => by
    show cLen j ps (i + 1) r = _
    rw [cLen_eq ps, List.length_cons, show i + 1 + ps.length = i + (ps.length + 1) by omega]
@[simp ↓] theorem cE_callK {np nk : Nat} {S : SF} {k : Env → R → Rs β} : cE (fCallK np nk S a b) env h k = cA a env h fun e ps => cA b e h fun e qs => cLen np ps 0 (cLen nk qs 0 (cApp ps qs fun l => cD l fun ds => cC (S ds) e h k)) := by
  unfold cE cA fCallK
  rw [on_bind]
  refine congrArg _ (funext fun p => ?_)
  rw [on_bind]
  refine congrArg _ (funext fun q => ?_)
  dsimp only
  rw [on_grd, cLen_eq, cLen_eq, Nat.zero_add, Nat.zero_add, grd_a]
  unfold cApp cC
  dsimp only
  rw [cD_eq]
def rlK (r : Rs R) (i : Nat) (e : Env) (h : HX β) (k : Out → Rs β) : Rs β := match r with
  | .ok (.nw true ds) => cP i e (some (.rl ds)) fun e => k (.nx e)
  | .ex _ x => h e x
  | _ => .bad
theorem rlK_n {r : Rs R} {i : Nat} {k : Out → Rs β} (z : r = .ok (.nw true ds)) : rlK r i e h k = cP i e (some (.rl ds)) fun e => k (.nx e) := by rw [z]; rfl
@[simp ↓] theorem cO_callRl {i : Nat} {S : SF} {k : Out → Rs β} : cO (fCallRl i S a) env h k = cA a env h fun e ps => cD ps fun ds => rlK (S ds) i e h k := by
  unfold cO cA fCallRl
  rw [on_bind]
  refine congrArg _ (funext fun p => ?_)
  dsimp only
  rw [cD_eq]
  cases S (p.2.map fun d => d.2) with
  | bad => rfl
  | ex e x => rfl
  | ok r => cases r with
    | sh n d => rfl
    | own i => rfl
    | nw n d => cases n <;> rfl
def roK (s : Option Sl) (i j : Nat) (e : Env) (k : Out → Rs β) : Rs β := match s with
  | some (.rl ds) => grd (allL ds && (decide (ds.length ≤ 1000) && decide (j < e.length))) (cP i e none fun e => cP j e none fun e => k (.nx e))
  | _ => .bad
@[simp ↓] theorem roK_rl {i j : Nat} {k : Out → Rs β} : roK (some (.rl ds)) i j e k = grd (allL ds) (grd (decide (ds.length ≤ 1000)) (grd (decide (j < e.length)) (cP i e none fun e => cP j e none fun e => k (.nx e)))) := by
  unfold roK; dsimp only; rw [grd_a, grd_a]
@[simp ↓] theorem cO_rows {i j : Nat} {k : Out → Rs β} : cO (fRows i j) env h k = roK (env.getD i none) i j env k := by
  unfold cO fRows roK
  rw [List.getD_eq_getElem?_getD]
  cases q : env[i]? with
  | none => rfl
  | some s => cases s with
    | none => rfl
    | some s => cases s with
      | sh n d => rfl
      | ow n d => rfl
      | rg d => rfl
      | od d => rfl
      | rl d =>
        dsimp only [Option.getD_some]
        rw [on_grd]; rfl
@[simp ↓] theorem roK_z {s : Option Sl} {l : Env} {i j : Nat} {k : Out → Rs β} : roK ((s :: l).getD 0 none) i j e k = roK s i j e k := id rfl
@[simp ↓] theorem roK_s {s : Option Sl} {l : Env} {i j x : Nat} {k : Out → Rs β} : roK ((s :: l).getD (x + 1) none) i j e k = roK (l.getD x none) i j e k := id rfl
abbrev cEn {α : Type} (c : α → PyData) (p : α × Nat) : PyData := .tuple [.int (p.2 : Nat), c p.1]
def euK (e : Env) (n : Bool) (d : PyData) (k : Env → List Dv → Rs β) : Rs β := match d with
  | .list ds => k e ((List.range ds.length).zipWith (fun i d => (n, .tuple [.int (i : Nat), d])) ds)
  | _ => .bad
@[simp ↓] theorem cA_enum {k : Env → List Dv → Rs β} : cA (fEnum v) env h k = cV v env h fun e n d => euK e n d k := by
  unfold cA cV fEnum
  rw [on_bind]
  refine congrArg _ (funext fun p => ?_)
  unfold euK
  obtain ⟨e, n, d⟩ := p
  cases d <;> rfl
theorem enum_wk {α : Type} {c : α → PyData} : ∀ (xs : List α) (j : Nat), (List.range' j xs.length).zipWith (fun (i : Nat) d => (n, PyData.tuple [.int (i : Nat), d])) (xs.map c) = wk n ((xs.zipIdx j).map (cEn c))
  | [], j => rfl
  | x :: xs, j => by
    rw [List.length_cons, List.range'_succ, List.map_cons, List.zipWith_cons_cons, enum_wk xs (j + 1), List.zipIdx_cons]; rfl
@[simp ↓] theorem euK_m {α : Type} {c : α → PyData} {xs : List α} {k : Env → List Dv → Rs β} : euK e n (.list (xs.map c)) k = k e (wk n ((xs.zipIdx).map (cEn c))) := by
  show k e _ = _
  rw [List.length_map, List.range_eq_range', enum_wk]
@[simp ↓] theorem cE_andV {k : Env → R → Rs β} : cE (fAndV v fb) env h k = cV v env h fun e _ d => cBo d fun b => ifK b (cE fb e h k) (k e (.sh true (.bool false))) := by
  unfold cE cV fAndV
  rw [on_bind]
  refine congrArg _ (funext fun p => ?_)
  obtain ⟨e, n, d⟩ := p
  cases d with
  | bool b => cases b <;> rfl
  | _ => rfl
@[simp ↓] theorem cE_orV {k : Env → R → Rs β} : cE (fOrV v fb) env h k = cV v env h fun e _ d => cBo d fun b => ifK b (k e (.sh true (.bool true))) (cE fb e h k) := by
  unfold cE cV fOrV
  rw [on_bind]
  refine congrArg _ (funext fun p => ?_)
  obtain ⟨e, n, d⟩ := p
  cases d with
  | bool b => cases b <;> rfl
  | _ => rfl
@[simp ↓] theorem cE_notV {k : Env → R → Rs β} : cE (fNotV v) env h k = cV v env h fun e _ d => cBo d fun b => k e (.sh true (.bool (!b))) := by
  unfold cE cV fNotV
  rw [on_bind]
  refine congrArg _ (funext fun p => ?_)
  obtain ⟨e, n, d⟩ := p
  cases d <;> rfl
@[simp ↓] theorem cR_min {i j : Int} {k : R → Rs β} : cR (bMin [(n, .int i), (m, .int j)]) h k = k (.sh true (.int (if j < i then j else i))) := id rfl
@[simp ↓] theorem cR_max {i j : Int} {k : R → Rs β} : cR (bMax [(n, .int i), (m, .int j)]) h k = k (.sh true (.int (if j > i then j else i))) := id rfl
@[simp ↓] theorem cR_all {bs : List Bool} {k : R → Rs β} : cR (bAll (n, .list (bs.map .bool))) h k = k (.sh true (.bool (bs.all id))) := by
  unfold cR bAll; dsimp only; rw [boolsOf_map]; rfl
@[simp ↓] theorem cR_any {bs : List Bool} {k : R → Rs β} : cR (bAny (n, .list (bs.map .bool))) h k = k (.sh true (.bool (bs.any id))) := by
  unfold cR bAny; dsimp only; rw [boolsOf_map]; rfl
def cOI (x : Option Int) : PyData := match x with
  | none => .none
  | some i => .int i
@[simp] theorem cOI_n : cOI none = .none := rfl
@[simp] theorem cOI_s {i : Int} : cOI (some i) = .int i := rfl
@[simp] theorem atom_oi {x : Option Int} : atom (cOI x) = true := by cases x <;> rfl
@[simp] theorem isNon_oi {x : Option Int} : isNon (cOI x) = x.isNone := by cases x <;> rfl
@[simp ↓ high] theorem cBo_oi {x : Option Int} {k : Bool → Rs β} : cBo (.bool (isNon (cOI x))) k = k x.isNone := by rw [isNon_oi]; rfl
@[simp ↓ high] theorem cBo_noi {x : Option Int} {k : Bool → Rs β} : cBo (.bool (!isNon (cOI x))) k = k (!x.isNone) := by rw [isNon_oi]; rfl
theorem ixOI_s {xs : List (Option Int)} {i x : Int} {k : R → Rs β} (z : iat xs i = some x) (q : 0 ≤ i ∧ i < xs.length) : cR (gIx (n, .list (xs.map cOI)) (m, .int i)) h k = k (.sh true (.int x)) := by
  rw [cR_ixLm q, z]
  cases n <;> rfl
theorem ixOI_n {xs : List (Option Int)} {i : Int} {k : R → Rs β} (z : iat xs i = none) (q : 0 ≤ i ∧ i < xs.length) : cR (gIx (n, .list (xs.map cOI)) (m, .int i)) h k = k (.sh true .none) := by
  rw [cR_ixLm q, z]
  cases n <;> rfl
@[simp ↓ high] theorem cR_repN {i : Int} {k : R → Rs β} : cR (gRep (true, .list [.none]) (m, .int i)) h k = grd (small i) (grd (decide (i.toNat ≤ 1000000)) (k (.nw true ((List.replicate i.toNat (none : Option Int)).map cOI)))) := by
  have e1 : (List.replicate i.toNat ([.none] : List PyData)).flatten = (List.replicate i.toNat (none : Option Int)).map cOI := by rw [List.map_replicate, List.flatten_replicate_singleton]; rfl
  unfold cR gRep
  dsimp only
  rw [e1, on_grd, grd_a]
  simp only [List.length_cons, List.length_nil, Nat.zero_add, Nat.one_mul]
  rfl
theorem flat_oi (x : Option Int) : flatD (cOI x) = true := by cases x <;> rfl
theorem inF_non : ∀ xs : List (Option Int), inF .none (xs.map cOI) = xs.any (·.isNone)
  | [] => rfl
  | x :: xs => by
    have ih := inF_non xs
    unfold inF at ih ⊢
    rw [List.map_cons, List.any_cons, List.any_cons, ih]
    cases x <;> rfl
@[simp ↓] theorem cR_notInN {xs : List (Option Int)} {k : R → Rs β} : cR (gInN true (n, .none) (m, .list (xs.map cOI))) h k = k (.sh true (.bool (!xs.any (·.isNone)))) := by
  have e1 : (xs.map cOI).all flatD = true := by rw [List.all_map]; exact List.all_eq_true.mpr fun x _ => flat_oi x
  unfold cR gInN seqL
  dsimp only
  rw [e1, inF_non]
  rfl
end
section
variable {β : Type} {h : HX β} {n m : Bool} {d : PyData} {ds : List PyData} {r : Env} {kE : Env → R → Rs β} {kV : Env → Bool → PyData → Rs β} {kO : Out → Rs β} {xs : List (Option Int)} {j x : Int}
@[simp ↓] theorem eRl_0 : cE (fVar 0) (lent (some (.rl ds) :: r)) h kE = kE (lent (some (.rl ds) :: r)) (.sh true (.list ds)) := id rfl
@[simp ↓] theorem vRl_0 : cV (rd (fVar 0)) (lent (some (.rl ds) :: r)) h kV = kV (lent (some (.rl ds) :: r)) true (.list ds) := id rfl
@[simp ↓] theorem kRl_0 : cV (st (fVar 0)) (lent (some (.rl ds) :: r)) h kV = kV (lent (some (.rl ds) :: r)) true (.list ds) := id rfl
@[simp ↓ high] theorem sOI_0 (q : 0 ≤ j ∧ j < xs.length) : siK 0 (some (.ow n (xs.map cOI)) :: r) m (.int x) (.int j) h kO = kO (.nx (some (.ow (n && m) ((ist xs j (some x)).map cOI)) :: r)) := sOm_0 (c := cOI) (z := some x) q
@[simp ↓] theorem eRl_1 {s0 : Option Sl} : cE (fVar 1) (lent (s0 :: some (.rl ds) :: r)) h kE = kE (lent (s0 :: some (.rl ds) :: r)) (.sh true (.list ds)) := id rfl
@[simp ↓] theorem vRl_1 {s0 : Option Sl} : cV (rd (fVar 1)) (lent (s0 :: some (.rl ds) :: r)) h kV = kV (lent (s0 :: some (.rl ds) :: r)) true (.list ds) := id rfl
@[simp ↓] theorem kRl_1 {s0 : Option Sl} : cV (st (fVar 1)) (lent (s0 :: some (.rl ds) :: r)) h kV = kV (lent (s0 :: some (.rl ds) :: r)) true (.list ds) := id rfl
@[simp ↓ high] theorem sOI_1 {s0 : Option Sl} (q : 0 ≤ j ∧ j < xs.length) : siK 1 (s0 :: some (.ow n (xs.map cOI)) :: r) m (.int x) (.int j) h kO = kO (.nx (s0 :: some (.ow (n && m) ((ist xs j (some x)).map cOI)) :: r)) := sOm_1 (c := cOI) (z := some x) q
@[simp ↓] theorem eRl_2 {s0 s1 : Option Sl} : cE (fVar 2) (lent (s0 :: s1 :: some (.rl ds) :: r)) h kE = kE (lent (s0 :: s1 :: some (.rl ds) :: r)) (.sh true (.list ds)) := id rfl
@[simp ↓] theorem vRl_2 {s0 s1 : Option Sl} : cV (rd (fVar 2)) (lent (s0 :: s1 :: some (.rl ds) :: r)) h kV = kV (lent (s0 :: s1 :: some (.rl ds) :: r)) true (.list ds) := id rfl
@[simp ↓] theorem kRl_2 {s0 s1 : Option Sl} : cV (st (fVar 2)) (lent (s0 :: s1 :: some (.rl ds) :: r)) h kV = kV (lent (s0 :: s1 :: some (.rl ds) :: r)) true (.list ds) := id rfl
@[simp ↓ high] theorem sOI_2 {s0 s1 : Option Sl} (q : 0 ≤ j ∧ j < xs.length) : siK 2 (s0 :: s1 :: some (.ow n (xs.map cOI)) :: r) m (.int x) (.int j) h kO = kO (.nx (s0 :: s1 :: some (.ow (n && m) ((ist xs j (some x)).map cOI)) :: r)) := sOm_2 (c := cOI) (z := some x) q
@[simp ↓] theorem eRl_3 {s0 s1 s2 : Option Sl} : cE (fVar 3) (lent (s0 :: s1 :: s2 :: some (.rl ds) :: r)) h kE = kE (lent (s0 :: s1 :: s2 :: some (.rl ds) :: r)) (.sh true (.list ds)) := id rfl
@[simp ↓] theorem vRl_3 {s0 s1 s2 : Option Sl} : cV (rd (fVar 3)) (lent (s0 :: s1 :: s2 :: some (.rl ds) :: r)) h kV = kV (lent (s0 :: s1 :: s2 :: some (.rl ds) :: r)) true (.list ds) := id rfl
@[simp ↓] theorem kRl_3 {s0 s1 s2 : Option Sl} : cV (st (fVar 3)) (lent (s0 :: s1 :: s2 :: some (.rl ds) :: r)) h kV = kV (lent (s0 :: s1 :: s2 :: some (.rl ds) :: r)) true (.list ds) := id rfl
@[simp ↓ high] theorem sOI_3 {s0 s1 s2 : Option Sl} (q : 0 ≤ j ∧ j < xs.length) : siK 3 (s0 :: s1 :: s2 :: some (.ow n (xs.map cOI)) :: r) m (.int x) (.int j) h kO = kO (.nx (s0 :: s1 :: s2 :: some (.ow (n && m) ((ist xs j (some x)).map cOI)) :: r)) := sOm_3 (c := cOI) (z := some x) q
@[simp ↓] theorem eRl_4 {s0 s1 s2 s3 : Option Sl} : cE (fVar 4) (lent (s0 :: s1 :: s2 :: s3 :: some (.rl ds) :: r)) h kE = kE (lent (s0 :: s1 :: s2 :: s3 :: some (.rl ds) :: r)) (.sh true (.list ds)) := id rfl
@[simp ↓] theorem vRl_4 {s0 s1 s2 s3 : Option Sl} : cV (rd (fVar 4)) (lent (s0 :: s1 :: s2 :: s3 :: some (.rl ds) :: r)) h kV = kV (lent (s0 :: s1 :: s2 :: s3 :: some (.rl ds) :: r)) true (.list ds) := id rfl
@[simp ↓] theorem kRl_4 {s0 s1 s2 s3 : Option Sl} : cV (st (fVar 4)) (lent (s0 :: s1 :: s2 :: s3 :: some (.rl ds) :: r)) h kV = kV (lent (s0 :: s1 :: s2 :: s3 :: some (.rl ds) :: r)) true (.list ds) := id rfl
@[simp ↓ high] theorem sOI_4 {s0 s1 s2 s3 : Option Sl} (q : 0 ≤ j ∧ j < xs.length) : siK 4 (s0 :: s1 :: s2 :: s3 :: some (.ow n (xs.map cOI)) :: r) m (.int x) (.int j) h kO = kO (.nx (s0 :: s1 :: s2 :: s3 :: some (.ow (n && m) ((ist xs j (some x)).map cOI)) :: r)) := sOm_4 (c := cOI) (z := some x) q
@[simp ↓] theorem eRl_5 {s0 s1 s2 s3 s4 : Option Sl} : cE (fVar 5) (lent (s0 :: s1 :: s2 :: s3 :: s4 :: some (.rl ds) :: r)) h kE = kE (lent (s0 :: s1 :: s2 :: s3 :: s4 :: some (.rl ds) :: r)) (.sh true (.list ds)) := id rfl
@[simp ↓] theorem vRl_5 {s0 s1 s2 s3 s4 : Option Sl} : cV (rd (fVar 5)) (lent (s0 :: s1 :: s2 :: s3 :: s4 :: some (.rl ds) :: r)) h kV = kV (lent (s0 :: s1 :: s2 :: s3 :: s4 :: some (.rl ds) :: r)) true (.list ds) := id rfl
@[simp ↓] theorem kRl_5 {s0 s1 s2 s3 s4 : Option Sl} : cV (st (fVar 5)) (lent (s0 :: s1 :: s2 :: s3 :: s4 :: some (.rl ds) :: r)) h kV = kV (lent (s0 :: s1 :: s2 :: s3 :: s4 :: some (.rl ds) :: r)) true (.list ds) := id rfl
@[simp ↓ high] theorem sOI_5 {s0 s1 s2 s3 s4 : Option Sl} (q : 0 ≤ j ∧ j < xs.length) : siK 5 (s0 :: s1 :: s2 :: s3 :: s4 :: some (.ow n (xs.map cOI)) :: r) m (.int x) (.int j) h kO = kO (.nx (s0 :: s1 :: s2 :: s3 :: s4 :: some (.ow (n && m) ((ist xs j (some x)).map cOI)) :: r)) := sOm_5 (c := cOI) (z := some x) q
@[simp ↓] theorem eRl_6 {s0 s1 s2 s3 s4 s5 : Option Sl} : cE (fVar 6) (lent (s0 :: s1 :: s2 :: s3 :: s4 :: s5 :: some (.rl ds) :: r)) h kE = kE (lent (s0 :: s1 :: s2 :: s3 :: s4 :: s5 :: some (.rl ds) :: r)) (.sh true (.list ds)) := id rfl
@[simp ↓] theorem vRl_6 {s0 s1 s2 s3 s4 s5 : Option Sl} : cV (rd (fVar 6)) (lent (s0 :: s1 :: s2 :: s3 :: s4 :: s5 :: some (.rl ds) :: r)) h kV = kV (lent (s0 :: s1 :: s2 :: s3 :: s4 :: s5 :: some (.rl ds) :: r)) true (.list ds) := id rfl
@[simp ↓] theorem kRl_6 {s0 s1 s2 s3 s4 s5 : Option Sl} : cV (st (fVar 6)) (lent (s0 :: s1 :: s2 :: s3 :: s4 :: s5 :: some (.rl ds) :: r)) h kV = kV (lent (s0 :: s1 :: s2 :: s3 :: s4 :: s5 :: some (.rl ds) :: r)) true (.list ds) := id rfl
@[simp ↓ high] theorem sOI_6 {s0 s1 s2 s3 s4 s5 : Option Sl} (q : 0 ≤ j ∧ j < xs.length) : siK 6 (s0 :: s1 :: s2 :: s3 :: s4 :: s5 :: some (.ow n (xs.map cOI)) :: r) m (.int x) (.int j) h kO = kO (.nx (s0 :: s1 :: s2 :: s3 :: s4 :: s5 :: some (.ow (n && m) ((ist xs j (some x)).map cOI)) :: r)) := sOm_6 (c := cOI) (z := some x) q
@[simp ↓] theorem eRl_7 {s0 s1 s2 s3 s4 s5 s6 : Option Sl} : cE (fVar 7) (lent (s0 :: s1 :: s2 :: s3 :: s4 :: s5 :: s6 :: some (.rl ds) :: r)) h kE = kE (lent (s0 :: s1 :: s2 :: s3 :: s4 :: s5 :: s6 :: some (.rl ds) :: r)) (.sh true (.list ds)) := id rfl
@[simp ↓] theorem vRl_7 {s0 s1 s2 s3 s4 s5 s6 : Option Sl} : cV (rd (fVar 7)) (lent (s0 :: s1 :: s2 :: s3 :: s4 :: s5 :: s6 :: some (.rl ds) :: r)) h kV = kV (lent (s0 :: s1 :: s2 :: s3 :: s4 :: s5 :: s6 :: some (.rl ds) :: r)) true (.list ds) := id rfl
@[simp ↓] theorem kRl_7 {s0 s1 s2 s3 s4 s5 s6 : Option Sl} : cV (st (fVar 7)) (lent (s0 :: s1 :: s2 :: s3 :: s4 :: s5 :: s6 :: some (.rl ds) :: r)) h kV = kV (lent (s0 :: s1 :: s2 :: s3 :: s4 :: s5 :: s6 :: some (.rl ds) :: r)) true (.list ds) := id rfl
@[simp ↓ high] theorem sOI_7 {s0 s1 s2 s3 s4 s5 s6 : Option Sl} (q : 0 ≤ j ∧ j < xs.length) : siK 7 (s0 :: s1 :: s2 :: s3 :: s4 :: s5 :: s6 :: some (.ow n (xs.map cOI)) :: r) m (.int x) (.int j) h kO = kO (.nx (s0 :: s1 :: s2 :: s3 :: s4 :: s5 :: s6 :: some (.ow (n && m) ((ist xs j (some x)).map cOI)) :: r)) := sOm_7 (c := cOI) (z := some x) q
@[simp ↓] theorem eRl_8 {s0 s1 s2 s3 s4 s5 s6 s7 : Option Sl} : cE (fVar 8) (lent (s0 :: s1 :: s2 :: s3 :: s4 :: s5 :: s6 :: s7 :: some (.rl ds) :: r)) h kE = kE (lent (s0 :: s1 :: s2 :: s3 :: s4 :: s5 :: s6 :: s7 :: some (.rl ds) :: r)) (.sh true (.list ds)) := id rfl
@[simp ↓] theorem vRl_8 {s0 s1 s2 s3 s4 s5 s6 s7 : Option Sl} : cV (rd (fVar 8)) (lent (s0 :: s1 :: s2 :: s3 :: s4 :: s5 :: s6 :: s7 :: some (.rl ds) :: r)) h kV = kV (lent (s0 :: s1 :: s2 :: s3 :: s4 :: s5 :: s6 :: s7 :: some (.rl ds) :: r)) true (.list ds) := id rfl
@[simp ↓] theorem kRl_8 {s0 s1 s2 s3 s4 s5 s6 s7 : Option Sl} : cV (st (fVar 8)) (lent (s0 :: s1 :: s2 :: s3 :: s4 :: s5 :: s6 :: s7 :: some (.rl ds) :: r)) h kV = kV (lent (s0 :: s1 :: s2 :: s3 :: s4 :: s5 :: s6 :: s7 :: some (.rl ds) :: r)) true (.list ds) := id rfl
@[simp ↓ high] theorem sOI_8 {s0 s1 s2 s3 s4 s5 s6 s7 : Option Sl} (q : 0 ≤ j ∧ j < xs.length) : siK 8 (s0 :: s1 :: s2 :: s3 :: s4 :: s5 :: s6 :: s7 :: some (.ow n (xs.map cOI)) :: r) m (.int x) (.int j) h kO = kO (.nx (s0 :: s1 :: s2 :: s3 :: s4 :: s5 :: s6 :: s7 :: some (.ow (n && m) ((ist xs j (some x)).map cOI)) :: r)) := sOm_8 (c := cOI) (z := some x) q
@[simp ↓] theorem eRl_9 {s0 s1 s2 s3 s4 s5 s6 s7 s8 : Option Sl} : cE (fVar 9) (lent (s0 :: s1 :: s2 :: s3 :: s4 :: s5 :: s6 :: s7 :: s8 :: some (.rl ds) :: r)) h kE = kE (lent (s0 :: s1 :: s2 :: s3 :: s4 :: s5 :: s6 :: s7 :: s8 :: some (.rl ds) :: r)) (.sh true (.list ds)) := id rfl
@[simp ↓] theorem vRl_9 {s0 s1 s2 s3 s4 s5 s6 s7 s8 : Option Sl} : cV (rd (fVar 9)) (lent (s0 :: s1 :: s2 :: s3 :: s4 :: s5 :: s6 :: s7 :: s8 :: some (.rl ds) :: r)) h kV = kV (lent (s0 :: s1 :: s2 :: s3 :: s4 :: s5 :: s6 :: s7 :: s8 :: some (.rl ds) :: r)) true (.list ds) := id rfl
@[simp ↓] theorem kRl_9 {s0 s1 s2 s3 s4 s5 s6 s7 s8 : Option Sl} : cV (st (fVar 9)) (lent (s0 :: s1 :: s2 :: s3 :: s4 :: s5 :: s6 :: s7 :: s8 :: some (.rl ds) :: r)) h kV = kV (lent (s0 :: s1 :: s2 :: s3 :: s4 :: s5 :: s6 :: s7 :: s8 :: some (.rl ds) :: r)) true (.list ds) := id rfl
@[simp ↓ high] theorem sOI_9 {s0 s1 s2 s3 s4 s5 s6 s7 s8 : Option Sl} (q : 0 ≤ j ∧ j < xs.length) : siK 9 (s0 :: s1 :: s2 :: s3 :: s4 :: s5 :: s6 :: s7 :: s8 :: some (.ow n (xs.map cOI)) :: r) m (.int x) (.int j) h kO = kO (.nx (s0 :: s1 :: s2 :: s3 :: s4 :: s5 :: s6 :: s7 :: s8 :: some (.ow (n && m) ((ist xs j (some x)).map cOI)) :: r)) := sOm_9 (c := cOI) (z := some x) q
@[simp ↓] theorem eRl_10 {s0 s1 s2 s3 s4 s5 s6 s7 s8 s9 : Option Sl} : cE (fVar 10) (lent (s0 :: s1 :: s2 :: s3 :: s4 :: s5 :: s6 :: s7 :: s8 :: s9 :: some (.rl ds) :: r)) h kE = kE (lent (s0 :: s1 :: s2 :: s3 :: s4 :: s5 :: s6 :: s7 :: s8 :: s9 :: some (.rl ds) :: r)) (.sh true (.list ds)) := id rfl
@[simp ↓] theorem vRl_10 {s0 s1 s2 s3 s4 s5 s6 s7 s8 s9 : Option Sl} : cV (rd (fVar 10)) (lent (s0 :: s1 :: s2 :: s3 :: s4 :: s5 :: s6 :: s7 :: s8 :: s9 :: some (.rl ds) :: r)) h kV = kV (lent (s0 :: s1 :: s2 :: s3 :: s4 :: s5 :: s6 :: s7 :: s8 :: s9 :: some (.rl ds) :: r)) true (.list ds) := id rfl
@[simp ↓] theorem kRl_10 {s0 s1 s2 s3 s4 s5 s6 s7 s8 s9 : Option Sl} : cV (st (fVar 10)) (lent (s0 :: s1 :: s2 :: s3 :: s4 :: s5 :: s6 :: s7 :: s8 :: s9 :: some (.rl ds) :: r)) h kV = kV (lent (s0 :: s1 :: s2 :: s3 :: s4 :: s5 :: s6 :: s7 :: s8 :: s9 :: some (.rl ds) :: r)) true (.list ds) := id rfl
@[simp ↓ high] theorem sOI_10 {s0 s1 s2 s3 s4 s5 s6 s7 s8 s9 : Option Sl} (q : 0 ≤ j ∧ j < xs.length) : siK 10 (s0 :: s1 :: s2 :: s3 :: s4 :: s5 :: s6 :: s7 :: s8 :: s9 :: some (.ow n (xs.map cOI)) :: r) m (.int x) (.int j) h kO = kO (.nx (s0 :: s1 :: s2 :: s3 :: s4 :: s5 :: s6 :: s7 :: s8 :: s9 :: some (.ow (n && m) ((ist xs j (some x)).map cOI)) :: r)) := sOm_10 (c := cOI) (z := some x) q
@[simp ↓] theorem eRl_11 {s0 s1 s2 s3 s4 s5 s6 s7 s8 s9 s10 : Option Sl} : cE (fVar 11) (lent (s0 :: s1 :: s2 :: s3 :: s4 :: s5 :: s6 :: s7 :: s8 :: s9 :: s10 :: some (.rl ds) :: r)) h kE = kE (lent (s0 :: s1 :: s2 :: s3 :: s4 :: s5 :: s6 :: s7 :: s8 :: s9 :: s10 :: some (.rl ds) :: r)) (.sh true (.list ds)) := id rfl
@[simp ↓] theorem vRl_11 {s0 s1 s2 s3 s4 s5 s6 s7 s8 s9 s10 : Option Sl} : cV (rd (fVar 11)) (lent (s0 :: s1 :: s2 :: s3 :: s4 :: s5 :: s6 :: s7 :: s8 :: s9 :: s10 :: some (.rl ds) :: r)) h kV = kV (lent (s0 :: s1 :: s2 :: s3 :: s4 :: s5 :: s6 :: s7 :: s8 :: s9 :: s10 :: some (.rl ds) :: r)) true (.list ds) := id rfl
@[simp ↓] theorem kRl_11 {s0 s1 s2 s3 s4 s5 s6 s7 s8 s9 s10 : Option Sl} : cV (st (fVar 11)) (lent (s0 :: s1 :: s2 :: s3 :: s4 :: s5 :: s6 :: s7 :: s8 :: s9 :: s10 :: some (.rl ds) :: r)) h kV = kV (lent (s0 :: s1 :: s2 :: s3 :: s4 :: s5 :: s6 :: s7 :: s8 :: s9 :: s10 :: some (.rl ds) :: r)) true (.list ds) := id rfl
@[simp ↓ high] theorem sOI_11 {s0 s1 s2 s3 s4 s5 s6 s7 s8 s9 s10 : Option Sl} (q : 0 ≤ j ∧ j < xs.length) : siK 11 (s0 :: s1 :: s2 :: s3 :: s4 :: s5 :: s6 :: s7 :: s8 :: s9 :: s10 :: some (.ow n (xs.map cOI)) :: r) m (.int x) (.int j) h kO = kO (.nx (s0 :: s1 :: s2 :: s3 :: s4 :: s5 :: s6 :: s7 :: s8 :: s9 :: s10 :: some (.ow (n && m) ((ist xs j (some x)).map cOI)) :: r)) := sOm_11 (c := cOI) (z := some x) q
@[simp ↓] theorem eRl_12 {s0 s1 s2 s3 s4 s5 s6 s7 s8 s9 s10 s11 : Option Sl} : cE (fVar 12) (lent (s0 :: s1 :: s2 :: s3 :: s4 :: s5 :: s6 :: s7 :: s8 :: s9 :: s10 :: s11 :: some (.rl ds) :: r)) h kE = kE (lent (s0 :: s1 :: s2 :: s3 :: s4 :: s5 :: s6 :: s7 :: s8 :: s9 :: s10 :: s11 :: some (.rl ds) :: r)) (.sh true (.list ds)) := id rfl
@[simp ↓] theorem vRl_12 {s0 s1 s2 s3 s4 s5 s6 s7 s8 s9 s10 s11 : Option Sl} : cV (rd (fVar 12)) (lent (s0 :: s1 :: s2 :: s3 :: s4 :: s5 :: s6 :: s7 :: s8 :: s9 :: s10 :: s11 :: some (.rl ds) :: r)) h kV = kV (lent (s0 :: s1 :: s2 :: s3 :: s4 :: s5 :: s6 :: s7 :: s8 :: s9 :: s10 :: s11 :: some (.rl ds) :: r)) true (.list ds) := id rfl
@[simp ↓] theorem kRl_12 {s0 s1 s2 s3 s4 s5 s6 s7 s8 s9 s10 s11 : Option Sl} : cV (st (fVar 12)) (lent (s0 :: s1 :: s2 :: s3 :: s4 :: s5 :: s6 :: s7 :: s8 :: s9 :: s10 :: s11 :: some (.rl ds) :: r)) h kV = kV (lent (s0 :: s1 :: s2 :: s3 :: s4 :: s5 :: s6 :: s7 :: s8 :: s9 :: s10 :: s11 :: some (.rl ds) :: r)) true (.list ds) := id rfl
@[simp ↓ high] theorem sOI_12 {s0 s1 s2 s3 s4 s5 s6 s7 s8 s9 s10 s11 : Option Sl} (q : 0 ≤ j ∧ j < xs.length) : siK 12 (s0 :: s1 :: s2 :: s3 :: s4 :: s5 :: s6 :: s7 :: s8 :: s9 :: s10 :: s11 :: some (.ow n (xs.map cOI)) :: r) m (.int x) (.int j) h kO = kO (.nx (s0 :: s1 :: s2 :: s3 :: s4 :: s5 :: s6 :: s7 :: s8 :: s9 :: s10 :: s11 :: some (.ow (n && m) ((ist xs j (some x)).map cOI)) :: r)) := sOm_12 (c := cOI) (z := some x) q
@[simp ↓] theorem eRl_13 {s0 s1 s2 s3 s4 s5 s6 s7 s8 s9 s10 s11 s12 : Option Sl} : cE (fVar 13) (lent (s0 :: s1 :: s2 :: s3 :: s4 :: s5 :: s6 :: s7 :: s8 :: s9 :: s10 :: s11 :: s12 :: some (.rl ds) :: r)) h kE = kE (lent (s0 :: s1 :: s2 :: s3 :: s4 :: s5 :: s6 :: s7 :: s8 :: s9 :: s10 :: s11 :: s12 :: some (.rl ds) :: r)) (.sh true (.list ds)) := id rfl
@[simp ↓] theorem vRl_13 {s0 s1 s2 s3 s4 s5 s6 s7 s8 s9 s10 s11 s12 : Option Sl} : cV (rd (fVar 13)) (lent (s0 :: s1 :: s2 :: s3 :: s4 :: s5 :: s6 :: s7 :: s8 :: s9 :: s10 :: s11 :: s12 :: some (.rl ds) :: r)) h kV = kV (lent (s0 :: s1 :: s2 :: s3 :: s4 :: s5 :: s6 :: s7 :: s8 :: s9 :: s10 :: s11 :: s12 :: some (.rl ds) :: r)) true (.list ds) := id rfl
@[simp ↓] theorem kRl_13 {s0 s1 s2 s3 s4 s5 s6 s7 s8 s9 s10 s11 s12 : Option Sl} : cV (st (fVar 13)) (lent (s0 :: s1 :: s2 :: s3 :: s4 :: s5 :: s6 :: s7 :: s8 :: s9 :: s10 :: s11 :: s12 :: some (.rl ds) :: r)) h kV = kV (lent (s0 :: s1 :: s2 :: s3 :: s4 :: s5 :: s6 :: s7 :: s8 :: s9 :: s10 :: s11 :: s12 :: some (.rl ds) :: r)) true (.list ds) := id rfl
@[simp ↓ high] theorem sOI_13 {s0 s1 s2 s3 s4 s5 s6 s7 s8 s9 s10 s11 s12 : Option Sl} (q : 0 ≤ j ∧ j < xs.length) : siK 13 (s0 :: s1 :: s2 :: s3 :: s4 :: s5 :: s6 :: s7 :: s8 :: s9 :: s10 :: s11 :: s12 :: some (.ow n (xs.map cOI)) :: r) m (.int x) (.int j) h kO = kO (.nx (s0 :: s1 :: s2 :: s3 :: s4 :: s5 :: s6 :: s7 :: s8 :: s9 :: s10 :: s11 :: s12 :: some (.ow (n && m) ((ist xs j (some x)).map cOI)) :: r)) := sOm_13 (c := cOI) (z := some x) q
@[simp ↓] theorem eRl_14 {s0 s1 s2 s3 s4 s5 s6 s7 s8 s9 s10 s11 s12 s13 : Option Sl} : cE (fVar 14) (lent (s0 :: s1 :: s2 :: s3 :: s4 :: s5 :: s6 :: s7 :: s8 :: s9 :: s10 :: s11 :: s12 :: s13 :: some (.rl ds) :: r)) h kE = kE (lent (s0 :: s1 :: s2 :: s3 :: s4 :: s5 :: s6 :: s7 :: s8 :: s9 :: s10 :: s11 :: s12 :: s13 :: some (.rl ds) :: r)) (.sh true (.list ds)) := id rfl
@[simp ↓] theorem vRl_14 {s0 s1 s2 s3 s4 s5 s6 s7 s8 s9 s10 s11 s12 s13 : Option Sl} : cV (rd (fVar 14)) (lent (s0 :: s1 :: s2 :: s3 :: s4 :: s5 :: s6 :: s7 :: s8 :: s9 :: s10 :: s11 :: s12 :: s13 :: some (.rl ds) :: r)) h kV = kV (lent (s0 :: s1 :: s2 :: s3 :: s4 :: s5 :: s6 :: s7 :: s8 :: s9 :: s10 :: s11 :: s12 :: s13 :: some (.rl ds) :: r)) true (.list ds) := id rfl
@[simp ↓] theorem kRl_14 {s0 s1 s2 s3 s4 s5 s6 s7 s8 s9 s10 s11 s12 s13 : Option Sl} : cV (st (fVar 14)) (lent (s0 :: s1 :: s2 :: s3 :: s4 :: s5 :: s6 :: s7 :: s8 :: s9 :: s10 :: s11 :: s12 :: s13 :: some (.rl ds) :: r)) h kV = kV (lent (s0 :: s1 :: s2 :: s3 :: s4 :: s5 :: s6 :: s7 :: s8 :: s9 :: s10 :: s11 :: s12 :: s13 :: some (.rl ds) :: r)) true (.list ds) := id rfl
@[simp ↓ high] theorem sOI_14 {s0 s1 s2 s3 s4 s5 s6 s7 s8 s9 s10 s11 s12 s13 : Option Sl} (q : 0 ≤ j ∧ j < xs.length) : siK 14 (s0 :: s1 :: s2 :: s3 :: s4 :: s5 :: s6 :: s7 :: s8 :: s9 :: s10 :: s11 :: s12 :: s13 :: some (.ow n (xs.map cOI)) :: r) m (.int x) (.int j) h kO = kO (.nx (s0 :: s1 :: s2 :: s3 :: s4 :: s5 :: s6 :: s7 :: s8 :: s9 :: s10 :: s11 :: s12 :: s13 :: some (.ow (n && m) ((ist xs j (some x)).map cOI)) :: r)) := sOm_14 (c := cOI) (z := some x) q
@[simp ↓] theorem eRl_15 {s0 s1 s2 s3 s4 s5 s6 s7 s8 s9 s10 s11 s12 s13 s14 : Option Sl} : cE (fVar 15) (lent (s0 :: s1 :: s2 :: s3 :: s4 :: s5 :: s6 :: s7 :: s8 :: s9 :: s10 :: s11 :: s12 :: s13 :: s14 :: some (.rl ds) :: r)) h kE = kE (lent (s0 :: s1 :: s2 :: s3 :: s4 :: s5 :: s6 :: s7 :: s8 :: s9 :: s10 :: s11 :: s12 :: s13 :: s14 :: some (.rl ds) :: r)) (.sh true (.list ds)) := id rfl
@[simp ↓] theorem vRl_15 {s0 s1 s2 s3 s4 s5 s6 s7 s8 s9 s10 s11 s12 s13 s14 : Option Sl} : cV (rd (fVar 15)) (lent (s0 :: s1 :: s2 :: s3 :: s4 :: s5 :: s6 :: s7 :: s8 :: s9 :: s10 :: s11 :: s12 :: s13 :: s14 :: some (.rl ds) :: r)) h kV = kV (lent (s0 :: s1 :: s2 :: s3 :: s4 :: s5 :: s6 :: s7 :: s8 :: s9 :: s10 :: s11 :: s12 :: s13 :: s14 :: some (.rl ds) :: r)) true (.list ds) := id rfl
@[simp ↓] theorem kRl_15 {s0 s1 s2 s3 s4 s5 s6 s7 s8 s9 s10 s11 s12 s13 s14 : Option Sl} : cV (st (fVar 15)) (lent (s0 :: s1 :: s2 :: s3 :: s4 :: s5 :: s6 :: s7 :: s8 :: s9 :: s10 :: s11 :: s12 :: s13 :: s14 :: some (.rl ds) :: r)) h kV = kV (lent (s0 :: s1 :: s2 :: s3 :: s4 :: s5 :: s6 :: s7 :: s8 :: s9 :: s10 :: s11 :: s12 :: s13 :: s14 :: some (.rl ds) :: r)) true (.list ds) := id rfl
@[simp ↓ high] theorem sOI_15 {s0 s1 s2 s3 s4 s5 s6 s7 s8 s9 s10 s11 s12 s13 s14 : Option Sl} (q : 0 ≤ j ∧ j < xs.length) : siK 15 (s0 :: s1 :: s2 :: s3 :: s4 :: s5 :: s6 :: s7 :: s8 :: s9 :: s10 :: s11 :: s12 :: s13 :: s14 :: some (.ow n (xs.map cOI)) :: r) m (.int x) (.int j) h kO = kO (.nx (s0 :: s1 :: s2 :: s3 :: s4 :: s5 :: s6 :: s7 :: s8 :: s9 :: s10 :: s11 :: s12 :: s13 :: s14 :: some (.ow (n && m) ((ist xs j (some x)).map cOI)) :: r)) := sOm_15 (c := cOI) (z := some x) q
@[simp ↓] theorem eRl_16 {s0 s1 s2 s3 s4 s5 s6 s7 s8 s9 s10 s11 s12 s13 s14 s15 : Option Sl} : cE (fVar 16) (lent (s0 :: s1 :: s2 :: s3 :: s4 :: s5 :: s6 :: s7 :: s8 :: s9 :: s10 :: s11 :: s12 :: s13 :: s14 :: s15 :: some (.rl ds) :: r)) h kE = kE (lent (s0 :: s1 :: s2 :: s3 :: s4 :: s5 :: s6 :: s7 :: s8 :: s9 :: s10 :: s11 :: s12 :: s13 :: s14 :: s15 :: some (.rl ds) :: r)) (.sh true (.list ds)) := id rfl
@[simp ↓] theorem vRl_16 {s0 s1 s2 s3 s4 s5 s6 s7 s8 s9 s10 s11 s12 s13 s14 s15 : Option Sl} : cV (rd (fVar 16)) (lent (s0 :: s1 :: s2 :: s3 :: s4 :: s5 :: s6 :: s7 :: s8 :: s9 :: s10 :: s11 :: s12 :: s13 :: s14 :: s15 :: some (.rl ds) :: r)) h kV = kV (lent (s0 :: s1 :: s2 :: s3 :: s4 :: s5 :: s6 :: s7 :: s8 :: s9 :: s10 :: s11 :: s12 :: s13 :: s14 :: s15 :: some (.rl ds) :: r)) true (.list ds) := id rfl
@[simp ↓] theorem kRl_16 {s0 s1 s2 s3 s4 s5 s6 s7 s8 s9 s10 s11 s12 s13 s14 s15 : Option Sl} : cV (st (fVar 16)) (lent (s0 :: s1 :: s2 :: s3 :: s4 :: s5 :: s6 :: s7 :: s8 :: s9 :: s10 :: s11 :: s12 :: s13 :: s14 :: s15 :: some (.rl ds) :: r)) h kV = kV (lent (s0 :: s1 :: s2 :: s3 :: s4 :: s5 :: s6 :: s7 :: s8 :: s9 :: s10 :: s11 :: s12 :: s13 :: s14 :: s15 :: some (.rl ds) :: r)) true (.list ds) := id rfl
@[simp ↓ high] theorem sOI_16 {s0 s1 s2 s3 s4 s5 s6 s7 s8 s9 s10 s11 s12 s13 s14 s15 : Option Sl} (q : 0 ≤ j ∧ j < xs.length) : siK 16 (s0 :: s1 :: s2 :: s3 :: s4 :: s5 :: s6 :: s7 :: s8 :: s9 :: s10 :: s11 :: s12 :: s13 :: s14 :: s15 :: some (.ow n (xs.map cOI)) :: r) m (.int x) (.int j) h kO = kO (.nx (s0 :: s1 :: s2 :: s3 :: s4 :: s5 :: s6 :: s7 :: s8 :: s9 :: s10 :: s11 :: s12 :: s13 :: s14 :: s15 :: some (.ow (n && m) ((ist xs j (some x)).map cOI)) :: r)) := sOm_16 (c := cOI) (z := some x) q
@[simp ↓] theorem eRl_17 {s0 s1 s2 s3 s4 s5 s6 s7 s8 s9 s10 s11 s12 s13 s14 s15 s16 : Option Sl} : cE (fVar 17) (lent (s0 :: s1 :: s2 :: s3 :: s4 :: s5 :: s6 :: s7 :: s8 :: s9 :: s10 :: s11 :: s12 :: s13 :: s14 :: s15 :: s16 :: some (.rl ds) :: r)) h kE = kE (lent (s0 :: s1 :: s2 :: s3 :: s4 :: s5 :: s6 :: s7 :: s8 :: s9 :: s10 :: s11 :: s12 :: s13 :: s14 :: s15 :: s16 :: some (.rl ds) :: r)) (.sh true (.list ds)) := id rfl
@[simp ↓] theorem vRl_17 {s0 s1 s2 s3 s4 s5 s6 s7 s8 s9 s10 s11 s12 s13 s14 s15 s16 : Option Sl} : cV (rd (fVar 17)) (lent (s0 :: s1 :: s2 :: s3 :: s4 :: s5 :: s6 :: s7 :: s8 :: s9 :: s10 :: s11 :: s12 :: s13 :: s14 :: s15 :: s16 :: some (.rl ds) :: r)) h kV = kV (lent (s0 :: s1 :: s2 :: s3 :: s4 :: s5 :: s6 :: s7 :: s8 :: s9 :: s10 :: s11 :: s12 :: s13 :: s14 :: s15 :: s16 :: some (.rl ds) :: r)) true (.list ds) := id rfl
@[simp ↓] theorem kRl_17 {s0 s1 s2 s3 s4 s5 s6 s7 s8 s9 s10 s11 s12 s13 s14 s15 s16 : Option Sl} : cV (st (fVar 17)) (lent (s0 :: s1 :: s2 :: s3 :: s4 :: s5 :: s6 :: s7 :: s8 :: s9 :: s10 :: s11 :: s12 :: s13 :: s14 :: s15 :: s16 :: some (.rl ds) :: r)) h kV = kV (lent (s0 :: s1 :: s2 :: s3 :: s4 :: s5 :: s6 :: s7 :: s8 :: s9 :: s10 :: s11 :: s12 :: s13 :: s14 :: s15 :: s16 :: some (.rl ds) :: r)) true (.list ds) := id rfl
@[simp ↓ high] theorem sOI_17 {s0 s1 s2 s3 s4 s5 s6 s7 s8 s9 s10 s11 s12 s13 s14 s15 s16 : Option Sl} (q : 0 ≤ j ∧ j < xs.length) : siK 17 (s0 :: s1 :: s2 :: s3 :: s4 :: s5 :: s6 :: s7 :: s8 :: s9 :: s10 :: s11 :: s12 :: s13 :: s14 :: s15 :: s16 :: some (.ow n (xs.map cOI)) :: r) m (.int x) (.int j) h kO = kO (.nx (s0 :: s1 :: s2 :: s3 :: s4 :: s5 :: s6 :: s7 :: s8 :: s9 :: s10 :: s11 :: s12 :: s13 :: s14 :: s15 :: s16 :: some (.ow (n && m) ((ist xs j (some x)).map cOI)) :: r)) := sOm_17 (c := cOI) (z := some x) q
@[simp ↓] theorem eRl_18 {s0 s1 s2 s3 s4 s5 s6 s7 s8 s9 s10 s11 s12 s13 s14 s15 s16 s17 : Option Sl} : cE (fVar 18) (lent (s0 :: s1 :: s2 :: s3 :: s4 :: s5 :: s6 :: s7 :: s8 :: s9 :: s10 :: s11 :: s12 :: s13 :: s14 :: s15 :: s16 :: s17 :: some (.rl ds) :: r)) h kE = kE (lent (s0 :: s1 :: s2 :: s3 :: s4 :: s5 :: s6 :: s7 :: s8 :: s9 :: s10 :: s11 :: s12 :: s13 :: s14 :: s15 :: s16 :: s17 :: some (.rl ds) :: r)) (.sh true (.list ds)) := id rfl
@[simp ↓] theorem vRl_18 {s0 s1 s2 s3 s4 s5 s6 s7 s8 s9 s10 s11 s12 s13 s14 s15 s16 s17 : Option Sl} : cV (rd (fVar 18)) (lent (s0 :: s1 :: s2 :: s3 :: s4 :: s5 :: s6 :: s7 :: s8 :: s9 :: s10 :: s11 :: s12 :: s13 :: s14 :: s15 :: s16 :: s17 :: some (.rl ds) :: r)) h kV = kV (lent (s0 :: s1 :: s2 :: s3 :: s4 :: s5 :: s6 :: s7 :: s8 :: s9 :: s10 :: s11 :: s12 :: s13 :: s14 :: s15 :: s16 :: s17 :: some (.rl ds) :: r)) true (.list ds) := id rfl
@[simp ↓] theorem kRl_18 {s0 s1 s2 s3 s4 s5 s6 s7 s8 s9 s10 s11 s12 s13 s14 s15 s16 s17 : Option Sl} : cV (st (fVar 18)) (lent (s0 :: s1 :: s2 :: s3 :: s4 :: s5 :: s6 :: s7 :: s8 :: s9 :: s10 :: s11 :: s12 :: s13 :: s14 :: s15 :: s16 :: s17 :: some (.rl ds) :: r)) h kV = kV (lent (s0 :: s1 :: s2 :: s3 :: s4 :: s5 :: s6 :: s7 :: s8 :: s9 :: s10 :: s11 :: s12 :: s13 :: s14 :: s15 :: s16 :: s17 :: some (.rl ds) :: r)) true (.list ds) := id rfl
@[simp ↓ high] theorem sOI_18 {s0 s1 s2 s3 s4 s5 s6 s7 s8 s9 s10 s11 s12 s13 s14 s15 s16 s17 : Option Sl} (q : 0 ≤ j ∧ j < xs.length) : siK 18 (s0 :: s1 :: s2 :: s3 :: s4 :: s5 :: s6 :: s7 :: s8 :: s9 :: s10 :: s11 :: s12 :: s13 :: s14 :: s15 :: s16 :: s17 :: some (.ow n (xs.map cOI)) :: r) m (.int x) (.int j) h kO = kO (.nx (s0 :: s1 :: s2 :: s3 :: s4 :: s5 :: s6 :: s7 :: s8 :: s9 :: s10 :: s11 :: s12 :: s13 :: s14 :: s15 :: s16 :: s17 :: some (.ow (n && m) ((ist xs j (some x)).map cOI)) :: r)) := sOm_18 (c := cOI) (z := some x) q
@[simp ↓] theorem eRl_19 {s0 s1 s2 s3 s4 s5 s6 s7 s8 s9 s10 s11 s12 s13 s14 s15 s16 s17 s18 : Option Sl} : cE (fVar 19) (lent (s0 :: s1 :: s2 :: s3 :: s4 :: s5 :: s6 :: s7 :: s8 :: s9 :: s10 :: s11 :: s12 :: s13 :: s14 :: s15 :: s16 :: s17 :: s18 :: some (.rl ds) :: r)) h kE = kE (lent (s0 :: s1 :: s2 :: s3 :: s4 :: s5 :: s6 :: s7 :: s8 :: s9 :: s10 :: s11 :: s12 :: s13 :: s14 :: s15 :: s16 :: s17 :: s18 :: some (.rl ds) :: r)) (.sh true (.list ds)) := id rfl
@[simp ↓] theorem vRl_19 {s0 s1 s2 s3 s4 s5 s6 s7 s8 s9 s10 s11 s12 s13 s14 s15 s16 s17 s18 : Option Sl} : cV (rd (fVar 19)) (lent (s0 :: s1 :: s2 :: s3 :: s4 :: s5 :: s6 :: s7 :: s8 :: s9 :: s10 :: s11 :: s12 :: s13 :: s14 :: s15 :: s16 :: s17 :: s18 :: some (.rl ds) :: r)) h kV = kV (lent (s0 :: s1 :: s2 :: s3 :: s4 :: s5 :: s6 :: s7 :: s8 :: s9 :: s10 :: s11 :: s12 :: s13 :: s14 :: s15 :: s16 :: s17 :: s18 :: some (.rl ds) :: r)) true (.list ds) := id rfl
@[simp ↓] theorem kRl_19 {s0 s1 s2 s3 s4 s5 s6 s7 s8 s9 s10 s11 s12 s13 s14 s15 s16 s17 s18 : Option Sl} : cV (st (fVar 19)) (lent (s0 :: s1 :: s2 :: s3 :: s4 :: s5 :: s6 :: s7 :: s8 :: s9 :: s10 :: s11 :: s12 :: s13 :: s14 :: s15 :: s16 :: s17 :: s18 :: some (.rl ds) :: r)) h kV = kV (lent (s0 :: s1 :: s2 :: s3 :: s4 :: s5 :: s6 :: s7 :: s8 :: s9 :: s10 :: s11 :: s12 :: s13 :: s14 :: s15 :: s16 :: s17 :: s18 :: some (.rl ds) :: r)) true (.list ds) := id rfl
@[simp ↓ high] theorem sOI_19 {s0 s1 s2 s3 s4 s5 s6 s7 s8 s9 s10 s11 s12 s13 s14 s15 s16 s17 s18 : Option Sl} (q : 0 ≤ j ∧ j < xs.length) : siK 19 (s0 :: s1 :: s2 :: s3 :: s4 :: s5 :: s6 :: s7 :: s8 :: s9 :: s10 :: s11 :: s12 :: s13 :: s14 :: s15 :: s16 :: s17 :: s18 :: some (.ow n (xs.map cOI)) :: r) m (.int x) (.int j) h kO = kO (.nx (s0 :: s1 :: s2 :: s3 :: s4 :: s5 :: s6 :: s7 :: s8 :: s9 :: s10 :: s11 :: s12 :: s13 :: s14 :: s15 :: s16 :: s17 :: s18 :: some (.ow (n && m) ((ist xs j (some x)).map cOI)) :: r)) := sOm_19 (c := cOI) (z := some x) q
@[simp ↓] theorem eRl_20 {s0 s1 s2 s3 s4 s5 s6 s7 s8 s9 s10 s11 s12 s13 s14 s15 s16 s17 s18 s19 : Option Sl} : cE (fVar 20) (lent (s0 :: s1 :: s2 :: s3 :: s4 :: s5 :: s6 :: s7 :: s8 :: s9 :: s10 :: s11 :: s12 :: s13 :: s14 :: s15 :: s16 :: s17 :: s18 :: s19 :: some (.rl ds) :: r)) h kE = kE (lent (s0 :: s1 :: s2 :: s3 :: s4 :: s5 :: s6 :: s7 :: s8 :: s9 :: s10 :: s11 :: s12 :: s13 :: s14 :: s15 :: s16 :: s17 :: s18 :: s19 :: some (.rl ds) :: r)) (.sh true (.list ds)) := id rfl
@[simp ↓] theorem vRl_20 {s0 s1 s2 s3 s4 s5 s6 s7 s8 s9 s10 s11 s12 s13 s14 s15 s16 s17 s18 s19 : Option Sl} : cV (rd (fVar 20)) (lent (s0 :: s1 :: s2 :: s3 :: s4 :: s5 :: s6 :: s7 :: s8 :: s9 :: s10 :: s11 :: s12 :: s13 :: s14 :: s15 :: s16 :: s17 :: s18 :: s19 :: some (.rl ds) :: r)) h kV = kV (lent (s0 :: s1 :: s2 :: s3 :: s4 :: s5 :: s6 :: s7 :: s8 :: s9 :: s10 :: s11 :: s12 :: s13 :: s14 :: s15 :: s16 :: s17 :: s18 :: s19 :: some (.rl ds) :: r)) true (.list ds) := id rfl
@[simp ↓] theorem kRl_20 {s0 s1 s2 s3 s4 s5 s6 s7 s8 s9 s10 s11 s12 s13 s14 s15 s16 s17 s18 s19 : Option Sl} : cV (st (fVar 20)) (lent (s0 :: s1 :: s2 :: s3 :: s4 :: s5 :: s6 :: s7 :: s8 :: s9 :: s10 :: s11 :: s12 :: s13 :: s14 :: s15 :: s16 :: s17 :: s18 :: s19 :: some (.rl ds) :: r)) h kV = kV (lent (s0 :: s1 :: s2 :: s3 :: s4 :: s5 :: s6 :: s7 :: s8 :: s9 :: s10 :: s11 :: s12 :: s13 :: s14 :: s15 :: s16 :: s17 :: s18 :: s19 :: some (.rl ds) :: r)) true (.list ds) := id rfl
@[simp ↓ high] theorem sOI_20 {s0 s1 s2 s3 s4 s5 s6 s7 s8 s9 s10 s11 s12 s13 s14 s15 s16 s17 s18 s19 : Option Sl} (q : 0 ≤ j ∧ j < xs.length) : siK 20 (s0 :: s1 :: s2 :: s3 :: s4 :: s5 :: s6 :: s7 :: s8 :: s9 :: s10 :: s11 :: s12 :: s13 :: s14 :: s15 :: s16 :: s17 :: s18 :: s19 :: some (.ow n (xs.map cOI)) :: r) m (.int x) (.int j) h kO = kO (.nx (s0 :: s1 :: s2 :: s3 :: s4 :: s5 :: s6 :: s7 :: s8 :: s9 :: s10 :: s11 :: s12 :: s13 :: s14 :: s15 :: s16 :: s17 :: s18 :: s19 :: some (.ow (n && m) ((ist xs j (some x)).map cOI)) :: r)) := sOm_20 (c := cOI) (z := some x) q
@[simp ↓] theorem eRl_21 {s0 s1 s2 s3 s4 s5 s6 s7 s8 s9 s10 s11 s12 s13 s14 s15 s16 s17 s18 s19 s20 : Option Sl} : cE (fVar 21) (lent (s0 :: s1 :: s2 :: s3 :: s4 :: s5 :: s6 :: s7 :: s8 :: s9 :: s10 :: s11 :: s12 :: s13 :: s14 :: s15 :: s16 :: s17 :: s18 :: s19 :: s20 :: some (.rl ds) :: r)) h kE = kE (lent (s0 :: s1 :: s2 :: s3 :: s4 :: s5 :: s6 :: s7 :: s8 :: s9 :: s10 :: s11 :: s12 :: s13 :: s14 :: s15 :: s16 :: s17 :: s18 :: s19 :: s20 :: some (.rl ds) :: r)) (.sh true (.list ds)) := id rfl
@[simp ↓] theorem vRl_21 {s0 s1 s2 s3 s4 s5 s6 s7 s8 s9 s10 s11 s12 s13 s14 s15 s16 s17 s18 s19 s20 : Option Sl} : cV (rd (fVar 21)) (lent (s0 :: s1 :: s2 :: s3 :: s4 :: s5 :: s6 :: s7 :: s8 :: s9 :: s10 :: s11 :: s12 :: s13 :: s14 :: s15 :: s16 :: s17 :: s18 :: s19 :: s20 :: some (.rl ds) :: r)) h kV = kV (lent (s0 :: s1 :: s2 :: s3 :: s4 :: s5 :: s6 :: s7 :: s8 :: s9 :: s10 :: s11 :: s12 :: s13 :: s14 :: s15 :: s16 :: s17 :: s18 :: s19 :: s20 :: some (.rl ds) :: r)) true (.list ds) := id rfl
@[simp ↓] theorem kRl_21 {s0 s1 s2 s3 s4 s5 s6 s7 s8 s9 s10 s11 s12 s13 s14 s15 s16 s17 s18 s19 s20 : Option Sl} : cV (st (fVar 21)) (lent (s0 :: s1 :: s2 :: s3 :: s4 :: s5 :: s6 :: s7 :: s8 :: s9 :: s10 :: s11 :: s12 :: s13 :: s14 :: s15 :: s16 :: s17 :: s18 :: s19 :: s20 :: some (.rl ds) :: r)) h kV = kV (lent (s0 :: s1 :: s2 :: s3 :: s4 :: s5 :: s6 :: s7 :: s8 :: s9 :: s10 :: s11 :: s12 :: s13 :: s14 :: s15 :: s16 :: s17 :: s18 :: s19 :: s20 :: some (.rl ds) :: r)) true (.list ds) := id rfl
@[simp ↓ high] theorem sOI_21 {s0 s1 s2 s3 s4 s5 s6 s7 s8 s9 s10 s11 s12 s13 s14 s15 s16 s17 s18 s19 s20 : Option Sl} (q : 0 ≤ j ∧ j < xs.length) : siK 21 (s0 :: s1 :: s2 :: s3 :: s4 :: s5 :: s6 :: s7 :: s8 :: s9 :: s10 :: s11 :: s12 :: s13 :: s14 :: s15 :: s16 :: s17 :: s18 :: s19 :: s20 :: some (.ow n (xs.map cOI)) :: r) m (.int x) (.int j) h kO = kO (.nx (s0 :: s1 :: s2 :: s3 :: s4 :: s5 :: s6 :: s7 :: s8 :: s9 :: s10 :: s11 :: s12 :: s13 :: s14 :: s15 :: s16 :: s17 :: s18 :: s19 :: s20 :: some (.ow (n && m) ((ist xs j (some x)).map cOI)) :: r)) := sOm_21 (c := cOI) (z := some x) q
@[simp ↓] theorem eRl_22 {s0 s1 s2 s3 s4 s5 s6 s7 s8 s9 s10 s11 s12 s13 s14 s15 s16 s17 s18 s19 s20 s21 : Option Sl} : cE (fVar 22) (lent (s0 :: s1 :: s2 :: s3 :: s4 :: s5 :: s6 :: s7 :: s8 :: s9 :: s10 :: s11 :: s12 :: s13 :: s14 :: s15 :: s16 :: s17 :: s18 :: s19 :: s20 :: s21 :: some (.rl ds) :: r)) h kE = kE (lent (s0 :: s1 :: s2 :: s3 :: s4 :: s5 :: s6 :: s7 :: s8 :: s9 :: s10 :: s11 :: s12 :: s13 :: s14 :: s15 :: s16 :: s17 :: s18 :: s19 :: s20 :: s21 :: some (.rl ds) :: r)) (.sh true (.list ds)) := id rfl
@[simp ↓] theorem vRl_22 {s0 s1 s2 s3 s4 s5 s6 s7 s8 s9 s10 s11 s12 s13 s14 s15 s16 s17 s18 s19 s20 s21 : Option Sl} : cV (rd (fVar 22)) (lent (s0 :: s1 :: s2 :: s3 :: s4 :: s5 :: s6 :: s7 :: s8 :: s9 :: s10 :: s11 :: s12 :: s13 :: s14 :: s15 :: s16 :: s17 :: s18 :: s19 :: s20 :: s21 :: some (.rl ds) :: r)) h kV = kV (lent (s0 :: s1 :: s2 :: s3 :: s4 :: s5 :: s6 :: s7 :: s8 :: s9 :: s10 :: s11 :: s12 :: s13 :: s14 :: s15 :: s16 :: s17 :: s18 :: s19 :: s20 :: s21 :: some (.rl ds) :: r)) true (.list ds) := id rfl
@[simp ↓] theorem kRl_22 {s0 s1 s2 s3 s4 s5 s6 s7 s8 s9 s10 s11 s12 s13 s14 s15 s16 s17 s18 s19 s20 s21 : Option Sl} : cV (st (fVar 22)) (lent (s0 :: s1 :: s2 :: s3 :: s4 :: s5 :: s6 :: s7 :: s8 :: s9 :: s10 :: s11 :: s12 :: s13 :: s14 :: s15 :: s16 :: s17 :: s18 :: s19 :: s20 :: s21 :: some (.rl ds) :: r)) h kV = kV (lent (s0 :: s1 :: s2 :: s3 :: s4 :: s5 :: s6 :: s7 :: s8 :: s9 :: s10 :: s11 :: s12 :: s13 :: s14 :: s15 :: s16 :: s17 :: s18 :: s19 :: s20 :: s21 :: some (.rl ds) :: r)) true (.list ds) := id rfl
@[simp ↓ high] theorem sOI_22 {s0 s1 s2 s3 s4 s5 s6 s7 s8 s9 s10 s11 s12 s13 s14 s15 s16 s17 s18 s19 s20 s21 : Option Sl} (q : 0 ≤ j ∧ j < xs.length) : siK 22 (s0 :: s1 :: s2 :: s3 :: s4 :: s5 :: s6 :: s7 :: s8 :: s9 :: s10 :: s11 :: s12 :: s13 :: s14 :: s15 :: s16 :: s17 :: s18 :: s19 :: s20 :: s21 :: some (.ow n (xs.map cOI)) :: r) m (.int x) (.int j) h kO = kO (.nx (s0 :: s1 :: s2 :: s3 :: s4 :: s5 :: s6 :: s7 :: s8 :: s9 :: s10 :: s11 :: s12 :: s13 :: s14 :: s15 :: s16 :: s17 :: s18 :: s19 :: s20 :: s21 :: some (.ow (n && m) ((ist xs j (some x)).map cOI)) :: r)) := sOm_22 (c := cOI) (z := some x) q
@[simp ↓] theorem eRl_23 {s0 s1 s2 s3 s4 s5 s6 s7 s8 s9 s10 s11 s12 s13 s14 s15 s16 s17 s18 s19 s20 s21 s22 : Option Sl} : cE (fVar 23) (lent (s0 :: s1 :: s2 :: s3 :: s4 :: s5 :: s6 :: s7 :: s8 :: s9 :: s10 :: s11 :: s12 :: s13 :: s14 :: s15 :: s16 :: s17 :: s18 :: s19 :: s20 :: s21 :: s22 :: some (.rl ds) :: r)) h kE = kE (lent (s0 :: s1 :: s2 :: s3 :: s4 :: s5 :: s6 :: s7 :: s8 :: s9 :: s10 :: s11 :: s12 :: s13 :: s14 :: s15 :: s16 :: s17 :: s18 :: s19 :: s20 :: s21 :: s22 :: some (.rl ds) :: r)) (.sh true (.list ds)) := id rfl
@[simp ↓] theorem vRl_23 {s0 s1 s2 s3 s4 s5 s6 s7 s8 s9 s10 s11 s12 s13 s14 s15 s16 s17 s18 s19 s20 s21 s22 : Option Sl} : cV (rd (fVar 23)) (lent (s0 :: s1 :: s2 :: s3 :: s4 :: s5 :: s6 :: s7 :: s8 :: s9 :: s10 :: s11 :: s12 :: s13 :: s14 :: s15 :: s16 :: s17 :: s18 :: s19 :: s20 :: s21 :: s22 :: some (.rl ds) :: r)) h kV = kV (lent (s0 :: s1 :: s2 :: s3 :: s4 :: s5 :: s6 :: s7 :: s8 :: s9 :: s10 :: s11 :: s12 :: s13 :: s14 :: s15 :: s16 :: s17 :: s18 :: s19 :: s20 :: s21 :: s22 :: some (.rl ds) :: r)) true (.list ds) := id rfl
@[simp ↓] theorem kRl_23 {s0 s1 s2 s3 s4 s5 s6 s7 s8 s9 s10 s11 s12 s13 s14 s15 s16 s17 s18 s19 s20 s21 s22 : Option Sl} : cV (st (fVar 23)) (lent (s0 :: s1 :: s2 :: s3 :: s4 :: s5 :: s6 :: s7 :: s8 :: s9 :: s10 :: s11 :: s12 :: s13 :: s14 :: s15 :: s16 :: s17 :: s18 :: s19 :: s20 :: s21 :: s22 :: some (.rl ds) :: r)) h kV = kV (lent (s0 :: s1 :: s2 :: s3 :: s4 :: s5 :: s6 :: s7 :: s8 :: s9 :: s10 :: s11 :: s12 :: s13 :: s14 :: s15 :: s16 :: s17 :: s18 :: s19 :: s20 :: s21 :: s22 :: some (.rl ds) :: r)) true (.list ds) := id rfl
@[simp ↓ high] theorem sOI_23 {s0 s1 s2 s3 s4 s5 s6 s7 s8 s9 s10 s11 s12 s13 s14 s15 s16 s17 s18 s19 s20 s21 s22 : Option Sl} (q : 0 ≤ j ∧ j < xs.length) : siK 23 (s0 :: s1 :: s2 :: s3 :: s4 :: s5 :: s6 :: s7 :: s8 :: s9 :: s10 :: s11 :: s12 :: s13 :: s14 :: s15 :: s16 :: s17 :: s18 :: s19 :: s20 :: s21 :: s22 :: some (.ow n (xs.map cOI)) :: r) m (.int x) (.int j) h kO = kO (.nx (s0 :: s1 :: s2 :: s3 :: s4 :: s5 :: s6 :: s7 :: s8 :: s9 :: s10 :: s11 :: s12 :: s13 :: s14 :: s15 :: s16 :: s17 :: s18 :: s19 :: s20 :: s21 :: s22 :: some (.ow (n && m) ((ist xs j (some x)).map cOI)) :: r)) := sOm_23 (c := cOI) (z := some x) q
@[simp ↓] theorem eRl_24 {s0 s1 s2 s3 s4 s5 s6 s7 s8 s9 s10 s11 s12 s13 s14 s15 s16 s17 s18 s19 s20 s21 s22 s23 : Option Sl} : cE (fVar 24) (lent (s0 :: s1 :: s2 :: s3 :: s4 :: s5 :: s6 :: s7 :: s8 :: s9 :: s10 :: s11 :: s12 :: s13 :: s14 :: s15 :: s16 :: s17 :: s18 :: s19 :: s20 :: s21 :: s22 :: s23 :: some (.rl ds) :: r)) h kE = kE (lent (s0 :: s1 :: s2 :: s3 :: s4 :: s5 :: s6 :: s7 :: s8 :: s9 :: s10 :: s11 :: s12 :: s13 :: s14 :: s15 :: s16 :: s17 :: s18 :: s19 :: s20 :: s21 :: s22 :: s23 :: some (.rl ds) :: r)) (.sh true (.list ds)) := id rfl
@[simp ↓] theorem vRl_24 {s0 s1 s2 s3 s4 s5 s6 s7 s8 s9 s10 s11 s12 s13 s14 s15 s16 s17 s18 s19 s20 s21 s22 s23 : Option Sl} : cV (rd (fVar 24)) (lent (s0 :: s1 :: s2 :: s3 :: s4 :: s5 :: s6 :: s7 :: s8 :: s9 :: s10 :: s11 :: s12 :: s13 :: s14 :: s15 :: s16 :: s17 :: s18 :: s19 :: s20 :: s21 :: s22 :: s23 :: some (.rl ds) :: r)) h kV = kV (lent (s0 :: s1 :: s2 :: s3 :: s4 :: s5 :: s6 :: s7 :: s8 :: s9 :: s10 :: s11 :: s12 :: s13 :: s14 :: s15 :: s16 :: s17 :: s18 :: s19 :: s20 :: s21 :: s22 :: s23 :: some (.rl ds) :: r)) true (.list ds) := id rfl
@[simp ↓] theorem kRl_24 {s0 s1 s2 s3 s4 s5 s6 s7 s8 s9 s10 s11 s12 s13 s14 s15 s16 s17 s18 s19 s20 s21 s22 s23 : Option Sl} : cV (st (fVar 24)) (lent (s0 :: s1 :: s2 :: s3 :: s4 :: s5 :: s6 :: s7 :: s8 :: s9 :: s10 :: s11 :: s12 :: s13 :: s14 :: s15 :: s16 :: s17 :: s18 :: s19 :: s20 :: s21 :: s22 :: s23 :: some (.rl ds) :: r)) h kV = kV (lent (s0 :: s1 :: s2 :: s3 :: s4 :: s5 :: s6 :: s7 :: s8 :: s9 :: s10 :: s11 :: s12 :: s13 :: s14 :: s15 :: s16 :: s17 :: s18 :: s19 :: s20 :: s21 :: s22 :: s23 :: some (.rl ds) :: r)) true (.list ds) := id rfl
@[simp ↓ high] theorem sOI_24 {s0 s1 s2 s3 s4 s5 s6 s7 s8 s9 s10 s11 s12 s13 s14 s15 s16 s17 s18 s19 s20 s21 s22 s23 : Option Sl} (q : 0 ≤ j ∧ j < xs.length) : siK 24 (s0 :: s1 :: s2 :: s3 :: s4 :: s5 :: s6 :: s7 :: s8 :: s9 :: s10 :: s11 :: s12 :: s13 :: s14 :: s15 :: s16 :: s17 :: s18 :: s19 :: s20 :: s21 :: s22 :: s23 :: some (.ow n (xs.map cOI)) :: r) m (.int x) (.int j) h kO = kO (.nx (s0 :: s1 :: s2 :: s3 :: s4 :: s5 :: s6 :: s7 :: s8 :: s9 :: s10 :: s11 :: s12 :: s13 :: s14 :: s15 :: s16 :: s17 :: s18 :: s19 :: s20 :: s21 :: s22 :: s23 :: some (.ow (n && m) ((ist xs j (some x)).map cOI)) :: r)) := sOm_24 (c := cOI) (z := some x) q
@[simp ↓] theorem eRl_25 {s0 s1 s2 s3 s4 s5 s6 s7 s8 s9 s10 s11 s12 s13 s14 s15 s16 s17 s18 s19 s20 s21 s22 s23 s24 : Option Sl} : cE (fVar 25) (lent (s0 :: s1 :: s2 :: s3 :: s4 :: s5 :: s6 :: s7 :: s8 :: s9 :: s10 :: s11 :: s12 :: s13 :: s14 :: s15 :: s16 :: s17 :: s18 :: s19 :: s20 :: s21 :: s22 :: s23 :: s24 :: some (.rl ds) :: r)) h kE = kE (lent (s0 :: s1 :: s2 :: s3 :: s4 :: s5 :: s6 :: s7 :: s8 :: s9 :: s10 :: s11 :: s12 :: s13 :: s14 :: s15 :: s16 :: s17 :: s18 :: s19 :: s20 :: s21 :: s22 :: s23 :: s24 :: some (.rl ds) :: r)) (.sh true (.list ds)) := id rfl
@[simp ↓] theorem vRl_25 {s0 s1 s2 s3 s4 s5 s6 s7 s8 s9 s10 s11 s12 s13 s14 s15 s16 s17 s18 s19 s20 s21 s22 s23 s24 : Option Sl} : cV (rd (fVar 25)) (lent (s0 :: s1 :: s2 :: s3 :: s4 :: s5 :: s6 :: s7 :: s8 :: s9 :: s10 :: s11 :: s12 :: s13 :: s14 :: s15 :: s16 :: s17 :: s18 :: s19 :: s20 :: s21 :: s22 :: s23 :: s24 :: some (.rl ds) :: r)) h kV = kV (lent (s0 :: s1 :: s2 :: s3 :: s4 :: s5 :: s6 :: s7 :: s8 :: s9 :: s10 :: s11 :: s12 :: s13 :: s14 :: s15 :: s16 :: s17 :: s18 :: s19 :: s20 :: s21 :: s22 :: s23 :: s24 :: some (.rl ds) :: r)) true (.list ds) := id rfl
@[simp ↓] theorem kRl_25 {s0 s1 s2 s3 s4 s5 s6 s7 s8 s9 s10 s11 s12 s13 s14 s15 s16 s17 s18 s19 s20 s21 s22 s23 s24 : Option Sl} : cV (st (fVar 25)) (lent (s0 :: s1 :: s2 :: s3 :: s4 :: s5 :: s6 :: s7 :: s8 :: s9 :: s10 :: s11 :: s12 :: s13 :: s14 :: s15 :: s16 :: s17 :: s18 :: s19 :: s20 :: s21 :: s22 :: s23 :: s24 :: some (.rl ds) :: r)) h kV = kV (lent (s0 :: s1 :: s2 :: s3 :: s4 :: s5 :: s6 :: s7 :: s8 :: s9 :: s10 :: s11 :: s12 :: s13 :: s14 :: s15 :: s16 :: s17 :: s18 :: s19 :: s20 :: s21 :: s22 :: s23 :: s24 :: some (.rl ds) :: r)) true (.list ds) := id rfl
@[simp ↓ high] theorem sOI_25 {s0 s1 s2 s3 s4 s5 s6 s7 s8 s9 s10 s11 s12 s13 s14 s15 s16 s17 s18 s19 s20 s21 s22 s23 s24 : Option Sl} (q : 0 ≤ j ∧ j < xs.length) : siK 25 (s0 :: s1 :: s2 :: s3 :: s4 :: s5 :: s6 :: s7 :: s8 :: s9 :: s10 :: s11 :: s12 :: s13 :: s14 :: s15 :: s16 :: s17 :: s18 :: s19 :: s20 :: s21 :: s22 :: s23 :: s24 :: some (.ow n (xs.map cOI)) :: r) m (.int x) (.int j) h kO = kO (.nx (s0 :: s1 :: s2 :: s3 :: s4 :: s5 :: s6 :: s7 :: s8 :: s9 :: s10 :: s11 :: s12 :: s13 :: s14 :: s15 :: s16 :: s17 :: s18 :: s19 :: s20 :: s21 :: s22 :: s23 :: s24 :: some (.ow (n && m) ((ist xs j (some x)).map cOI)) :: r)) := sOm_25 (c := cOI) (z := some x) q
@[simp ↓] theorem eRl_26 {s0 s1 s2 s3 s4 s5 s6 s7 s8 s9 s10 s11 s12 s13 s14 s15 s16 s17 s18 s19 s20 s21 s22 s23 s24 s25 : Option Sl} : cE (fVar 26) (lent (s0 :: s1 :: s2 :: s3 :: s4 :: s5 :: s6 :: s7 :: s8 :: s9 :: s10 :: s11 :: s12 :: s13 :: s14 :: s15 :: s16 :: s17 :: s18 :: s19 :: s20 :: s21 :: s22 :: s23 :: s24 :: s25 :: some (.rl ds) :: r)) h kE = kE (lent (s0 :: s1 :: s2 :: s3 :: s4 :: s5 :: s6 :: s7 :: s8 :: s9 :: s10 :: s11 :: s12 :: s13 :: s14 :: s15 :: s16 :: s17 :: s18 :: s19 :: s20 :: s21 :: s22 :: s23 :: s24 :: s25 :: some (.rl ds) :: r)) (.sh true (.list ds)) := id rfl
@[simp ↓] theorem vRl_26 {s0 s1 s2 s3 s4 s5 s6 s7 s8 s9 s10 s11 s12 s13 s14 s15 s16 s17 s18 s19 s20 s21 s22 s23 s24 s25 : Option Sl} : cV (rd (fVar 26)) (lent (s0 :: s1 :: s2 :: s3 :: s4 :: s5 :: s6 :: s7 :: s8 :: s9 :: s10 :: s11 :: s12 :: s13 :: s14 :: s15 :: s16 :: s17 :: s18 :: s19 :: s20 :: s21 :: s22 :: s23 :: s24 :: s25 :: some (.rl ds) :: r)) h kV = kV (lent (s0 :: s1 :: s2 :: s3 :: s4 :: s5 :: s6 :: s7 :: s8 :: s9 :: s10 :: s11 :: s12 :: s13 :: s14 :: s15 :: s16 :: s17 :: s18 :: s19 :: s20 :: s21 :: s22 :: s23 :: s24 :: s25 :: some (.rl ds) :: r)) true (.list ds) := id rfl
@[simp ↓] theorem kRl_26 {s0 s1 s2 s3 s4 s5 s6 s7 s8 s9 s10 s11 s12 s13 s14 s15 s16 s17 s18 s19 s20 s21 s22 s23 s24 s25 : Option Sl} : cV (st (fVar 26)) (lent (s0 :: s1 :: s2 :: s3 :: s4 :: s5 :: s6 :: s7 :: s8 :: s9 :: s10 :: s11 :: s12 :: s13 :: s14 :: s15 :: s16 :: s17 :: s18 :: s19 :: s20 :: s21 :: s22 :: s23 :: s24 :: s25 :: some (.rl ds) :: r)) h kV = kV (lent (s0 :: s1 :: s2 :: s3 :: s4 :: s5 :: s6 :: s7 :: s8 :: s9 :: s10 :: s11 :: s12 :: s13 :: s14 :: s15 :: s16 :: s17 :: s18 :: s19 :: s20 :: s21 :: s22 :: s23 :: s24 :: s25 :: some (.rl ds) :: r)) true (.list ds) := id rfl
@[simp ↓ high] theorem sOI_26 {s0 s1 s2 s3 s4 s5 s6 s7 s8 s9 s10 s11 s12 s13 s14 s15 s16 s17 s18 s19 s20 s21 s22 s23 s24 s25 : Option Sl} (q : 0 ≤ j ∧ j < xs.length) : siK 26 (s0 :: s1 :: s2 :: s3 :: s4 :: s5 :: s6 :: s7 :: s8 :: s9 :: s10 :: s11 :: s12 :: s13 :: s14 :: s15 :: s16 :: s17 :: s18 :: s19 :: s20 :: s21 :: s22 :: s23 :: s24 :: s25 :: some (.ow n (xs.map cOI)) :: r) m (.int x) (.int j) h kO = kO (.nx (s0 :: s1 :: s2 :: s3 :: s4 :: s5 :: s6 :: s7 :: s8 :: s9 :: s10 :: s11 :: s12 :: s13 :: s14 :: s15 :: s16 :: s17 :: s18 :: s19 :: s20 :: s21 :: s22 :: s23 :: s24 :: s25 :: some (.ow (n && m) ((ist xs j (some x)).map cOI)) :: r)) := sOm_26 (c := cOI) (z := some x) q
@[simp ↓] theorem eRl_27 {s0 s1 s2 s3 s4 s5 s6 s7 s8 s9 s10 s11 s12 s13 s14 s15 s16 s17 s18 s19 s20 s21 s22 s23 s24 s25 s26 : Option Sl} : cE (fVar 27) (lent (s0 :: s1 :: s2 :: s3 :: s4 :: s5 :: s6 :: s7 :: s8 :: s9 :: s10 :: s11 :: s12 :: s13 :: s14 :: s15 :: s16 :: s17 :: s18 :: s19 :: s20 :: s21 :: s22 :: s23 :: s24 :: s25 :: s26 :: some (.rl ds) :: r)) h kE = kE (lent (s0 :: s1 :: s2 :: s3 :: s4 :: s5 :: s6 :: s7 :: s8 :: s9 :: s10 :: s11 :: s12 :: s13 :: s14 :: s15 :: s16 :: s17 :: s18 :: s19 :: s20 :: s21 :: s22 :: s23 :: s24 :: s25 :: s26 :: some (.rl ds) :: r)) (.sh true (.list ds)) := id rfl
@[simp ↓] theorem vRl_27 {s0 s1 s2 s3 s4 s5 s6 s7 s8 s9 s10 s11 s12 s13 s14 s15 s16 s17 s18 s19 s20 s21 s22 s23 s24 s25 s26 : Option Sl} : cV (rd (fVar 27)) (lent (s0 :: s1 :: s2 :: s3 :: s4 :: s5 :: s6 :: s7 :: s8 :: s9 :: s10 :: s11 :: s12 :: s13 :: s14 :: s15 :: s16 :: s17 :: s18 :: s19 :: s20 :: s21 :: s22 :: s23 :: s24 :: s25 :: s26 :: some (.rl ds) :: r)) h kV = kV (lent (s0 :: s1 :: s2 :: s3 :: s4 :: s5 :: s6 :: s7 :: s8 :: s9 :: s10 :: s11 :: s12 :: s13 :: s14 :: s15 :: s16 :: s17 :: s18 :: s19 :: s20 :: s21 :: s22 :: s23 :: s24 :: s25 :: s26 :: some (.rl ds) :: r)) true (.list ds) := id rfl
@[simp ↓] theorem kRl_27 {s0 s1 s2 s3 s4 s5 s6 s7 s8 s9 s10 s11 s12 s13 s14 s15 s16 s17 s18 s19 s20 s21 s22 s23 s24 s25 s26 : Option Sl} : cV (st (fVar 27)) (lent (s0 :: s1 :: s2 :: s3 :: s4 :: s5 :: s6 :: s7 :: s8 :: s9 :: s10 :: s11 :: s12 :: s13 :: s14 :: s15 :: s16 :: s17 :: s18 :: s19 :: s20 :: s21 :: s22 :: s23 :: s24 :: s25 :: s26 :: some (.rl ds) :: r)) h kV = kV (lent (s0 :: s1 :: s2 :: s3 :: s4 :: s5 :: s6 :: s7 :: s8 :: s9 :: s10 :: s11 :: s12 :: s13 :: s14 :: s15 :: s16 :: s17 :: s18 :: s19 :: s20 :: s21 :: s22 :: s23 :: s24 :: s25 :: s26 :: some (.rl ds) :: r)) true (.list ds) := id rfl
@[simp ↓ high] theorem sOI_27 {s0 s1 s2 s3 s4 s5 s6 s7 s8 s9 s10 s11 s12 s13 s14 s15 s16 s17 s18 s19 s20 s21 s22 s23 s24 s25 s26 : Option Sl} (q : 0 ≤ j ∧ j < xs.length) : siK 27 (s0 :: s1 :: s2 :: s3 :: s4 :: s5 :: s6 :: s7 :: s8 :: s9 :: s10 :: s11 :: s12 :: s13 :: s14 :: s15 :: s16 :: s17 :: s18 :: s19 :: s20 :: s21 :: s22 :: s23 :: s24 :: s25 :: s26 :: some (.ow n (xs.map cOI)) :: r) m (.int x) (.int j) h kO = kO (.nx (s0 :: s1 :: s2 :: s3 :: s4 :: s5 :: s6 :: s7 :: s8 :: s9 :: s10 :: s11 :: s12 :: s13 :: s14 :: s15 :: s16 :: s17 :: s18 :: s19 :: s20 :: s21 :: s22 :: s23 :: s24 :: s25 :: s26 :: some (.ow (n && m) ((ist xs j (some x)).map cOI)) :: r)) := sOm_27 (c := cOI) (z := some x) q
end
end Dn
namespace Dn
open PySem PySem.Spec L2
def sortAl (ds : List PyData) : Bool := ds.all fun d => ds.all fun e => PySem.W.alike d e
def sortKd (ds : List PyData) : Bool := (ds.all fun d => match d with
  | .tuple (_ :: _) => true
  | _ => false) || ds.all fun d => match d with
  | .none => false
  | .tuple _ => false
  | _ => true
def sortOk (ds : List PyData) : Bool := sortAl ds && (sortKd ds && (PyData.canLayAll0 ds && (decide (ds.length ≤ 1000000) && ds.all fun d => decide (d.depth ≤ 60))))
def srt (ds : List PyData) : List PyData := ds.mergeSort (PySem.W.dataLe false id)
theorem sortAl_ok {ds : List PyData} (h : sortAl ds = true) : PySem.W.AllAlike ds := fun d hd e he => List.all_eq_true.mp (List.all_eq_true.mp h d hd) e he
theorem sortKd_ok {ds : List PyData} (h : sortKd ds = true) : PySem.W.Sortable ds := by
  unfold sortKd at h
  rcases Bool.or_eq_true_iff.mp h with h | h
  · refine .inl fun d hd => ?_
    have := List.all_eq_true.mp h d hd
    split at this
    · exact ⟨_, _, rfl⟩
    · cases this
  · refine .inr fun d hd => ?_
    have := List.all_eq_true.mp h d hd
    split at this
    · cases this
    · cases this
    · rename_i n1 n2
      exact ⟨n1, n2⟩
def bSorted (p : Dv) : Rs R := match seqL p.2 with
  | some ds => grd (sortOk ds) (.ok (.nw (p.1 || ds.all atom) (srt ds)))
  | none => .bad
theorem bSorted_no : ∀ p e x, bSorted p ≠ .ex e x := fun p e x h => by
  unfold bSorted at h
  split at h
  · exact absurd h (grd_no fun z => nomatch z)
  · cases h
theorem objAt {P : Program} {w : World} {H : Hp} {h : Heap} {a : Addr} {o : HO} (x : ObjOk P w H h a o) : ∃ u, h.get? a = some u := by
  cases o with
  | lst xs => obtain ⟨_, _, _, _, e⟩ := x; exact ⟨_, e⟩
  | tup xs => obtain ⟨_, _, _, ⟨o, e, _⟩⟩ := x; exact ⟨o, e⟩
  | dK kvs => obtain ⟨_, _, _, _, o, _, _, e, _⟩ := x; exact ⟨o, e⟩
  | dT kvs => obtain ⟨_, _, _, _, o, _, _, e, _⟩ := x; exact ⟨o, e⟩
  | set S n => obtain ⟨o, _, _, _, e, _⟩ := x; exact ⟨o, e⟩
  | ins C dx fs => obtain ⟨_, _, _, e, _⟩ := x; exact ⟨_, e⟩
  | own y => obtain ⟨o, e⟩ := x; exact ⟨o, e⟩
  | xd fs => obtain ⟨_, ⟨o, _, _, e, _⟩, _⟩ := x; exact ⟨o, e⟩
  | rng lo hi => obtain ⟨_, _, _, e⟩ := x; exact ⟨_, e⟩
  | frz ob u => obtain ⟨e, _⟩ := x; exact ⟨_, e⟩
  | tbl ps => exact ⟨_, (show h.get? a = some _ from x)⟩
  | met f y => exact ⟨_, (show h.get? a = some _ from x)⟩
  | ext φ => obtain ⟨_, ⟨o, e⟩, _⟩ := x; exact ⟨o, e⟩
theorem is_at {K : PySem.W.Frag} {H0 F : Hp} {n : Bool} {v : V} {d : PyData} (h : Is K H0 n F v d) : Is K H0 (n || atom d) F v d := by
  cases q : atom d with
  | true => exact h.atom q
  | false => rw [Bool.or_false]; exact h
theorem isA_atoms {K : PySem.W.Frag} {H0 F : Hp} {n m : Bool} : ∀ {xs : List V} {ds : List PyData}, IsA K H0 n F xs ds → ds.all atom = true → IsA K H0 m F xs ds
  | _, _, .nil, _ => .nil
  | _, _, .cons h t, z => by
    rw [List.all_cons, Bool.and_eq_true] at z
    exact .cons (h.atom z.1) (isA_atoms t z.2)
theorem isA_at {K : PySem.W.Frag} {H0 F : Hp} {n : Bool} {xs : List V} {ds : List PyData} (h : IsA K H0 n F xs ds) : IsA K H0 (n || ds.all atom) F xs ds := by
  cases q : ds.all atom with
  | true => exact isA_atoms h q
  | false => rw [Bool.or_false]; exact h
section
variable {X : Cx} {pins : List (Addr × Obj)} {σ : St} {H H0 F : Hp} {s : Shared} {n : Bool}
/-- what a value is known to stand for -/
def StD (K : PySem.W.Frag) (H0 : Hp) (n : Bool) (F : Hp) (v : Value) (d : PyData) : Prop := ∃ x : V, RelV x v ∧ Is K H0 n F x d
theorem each_of {K : PySem.W.Frag} : ∀ {xs : List V} {its : List Value} {ds : List PyData}, Vals xs its → IsA K H0 n F xs ds → PySem.W.EachIs (StD K H0 n F) its ds
  | _, _, _, .nil, .nil => .nil
  | _, _, _, .cons r t, .cons h a => .cons ⟨_, r, h⟩ (each_of t a)
theorem of_each {K : PySem.W.Frag} : ∀ {its : List Value} {ds : List PyData}, PySem.W.EachIs (StD K H0 n F) its ds → ∃ xs, Vals xs its ∧ IsA K H0 n F xs ds
  | _, _, .nil => ⟨[], .nil, .nil⟩
  | _, _, .cons ⟨x, r, h⟩ t => by
    obtain ⟨xs, r2, a⟩ := of_each t
    exact ⟨x :: xs, .cons r r2, .cons h a⟩
theorem each_lay : ∀ {its : List Value} {ds : List PyData}, PySem.W.EachIs (StD X.K H0 n F) its ds → L2.Inv X pins σ H s → Same F H → PyData.canLayAll0 ds = true → PySem.W.EachIs (fun v d => ∃ as, Reads s.heap v d as) its ds
  | _, _, .nil, _, _, _ => .nil
  | _, _, .cons ⟨x, r, h⟩ t, I, fz, hl => by
    rw [PyData.canLayAll0, Bool.and_eq_true] at hl
    exact .cons (Dp.reads I _ x _ (dp_to fz (Is.dp h hl.1)) r) (each_lay t I fz hl.2)
theorem map_id_eq {ds : List PyData} : ds.map id = ds := List.map_id ds
theorem srt_each {K : PySem.W.Frag} {its : List Value} {ds : List PyData} (h : PySem.W.EachIs (StD K H0 n F) its (ds.mergeSort (PySem.W.dataLe false id))) (hl : its.length = ds.length) : ∃ xs, Vals xs its ∧ IsA K H0 n F xs (srt ds) ∧ xs.length = ds.length := by
  obtain ⟨xs, r, a⟩ := of_each h
  exact ⟨xs, r, a, by rw [r.length]; exact hl⟩
theorem sorted_tup {prog : Program} {w : World} {A : Around} {E : Value → Shared → Prop} {s : Shared} {l : Addr} {vs : List Value} {ds : List PyData} {R : Value → PyData → Prop} {Q : Value → Shared → Prop} (hl : s.heap.IsTuple l vs.toArray) (e : PySem.W.EachIs R vs ds)
    (er : PySem.W.EachIs (fun v d => ∃ as, Reads s.heap v d as) vs ds) (hal : PySem.W.AllAlike ds) (hk : PySem.W.Sortable ds) (hL : ds.length ≤ sizeLine) (hu : ∀ d, d ∈ ds → A.units + 3 + d.depth < cLine)
    (hli : ∀ b o, s.heap.get? b = some o → b < s.heap.objs.size)
    (h : ∀ (out : List Value) (h' : Heap) (p : Addr) (c : Nat), out.length = ds.length → PySem.W.EachIs R out (ds.mergeSort (PySem.W.dataLe false id)) → s.heap.get? p = none → (∀ b o, s.heap.get? b = some o → h'.get? b = some o) → h'.get? p = some (PyProof.Rows.seqObj "list" out.toArray c) → Q (.ref p) { s with heap := h' }) :
    wpAny (model prog w) A (call (.builtin "sorted") [.ref l]) Q E s := by
  obtain ⟨o, ho, hc, m, hd⟩ := id hl
  have hvl : vs.length ≤ sizeLine := by rw [e.length]; exact hL
  refine PyProof.Rows.call_function_entry_kw PyProof.Rows.kind_sorted PyProof.Rows.plain_sorted PyProof.Rows.entry_sorted (PyProof.Rows.args_sorted1 _) ?_
  unfold Builtin.«sorted»
  refine wpAny_bind (m := checkCount "sorted" 1 1 _) (wpAny_pure ?_)
  refine wpAny_bind (wpAny_collect_seq l (.inr rfl) ho hc hd (fun h1 k1 => ?_) (by rw [List.size_toArray]; exact hvl))
  have e0 : vs.toArray.toList = vs := by simp
  rw [e0]
  refine wpAny_bind (wpAny_newList ?_ hvl)
  have k2 : ∀ b o, s.heap.get? b = some o → (h1.push (PyProof.Rows.seqObj "list" vs.toArray 0)).get? b = some o := fun b o q => Heap.get?_push_of_some _ (k1 b o q)
  have hp : s.heap.get? h1.objs.size = none := by
    cases q : s.heap.get? h1.objs.size with
    | none => rfl
    | some o => exact absurd (Heap.lt_size (k1 _ _ q)) (Nat.lt_irrefl _)
  have hat : (h1.push (PyProof.Rows.seqObj "list" vs.toArray 0)).get? h1.objs.size = some (PyProof.Rows.seqObj "list" vs.toArray 0) := Heap.get?_push_size _ rfl
  have hbig : ∀ b o, s.heap.get? b = some o → b < h1.objs.size := fun b o q => Heap.lt_size (k1 b o q)
  refine wpAny_bind (wpAny_holding (PyProof.Rows.wpAny_call_entry_kw PyProof.Rows.slot_list_sort ⟨_, hat, rfl⟩ PyProof.Rows.entry_list_sort ?_ (PyProof.Rows.args_list_sort _)))
  have er' : PySem.W.EachIs (fun v d => ∃ as, Reads (PySem.W.sortingHeap (h1.push (PyProof.Rows.seqObj "list" vs.toArray 0)) h1.objs.size vs) v d as) vs ds :=
    er.mono fun _ _ ⟨as, r⟩ => ⟨as, PyProof.Rows.Reads.keeps (fun b o q => PySem.W.sortingHeap_old (Nat.ne_of_lt (hbig b o q)) (k2 b o q)) r⟩
  refine PySem.W.list_sort_vals (κ := PySem.W.dataKind (PySem.W.sortingHeap (h1.push (PyProof.Rows.seqObj "list" vs.toArray 0)) h1.objs.size vs) ds) hat (PySem.W.SortsAt.data (s := { s with heap := PySem.W.sortingHeap (h1.push (PyProof.Rows.seqObj "list" vs.toArray 0)) h1.objs.size vs }) er' hal hk (fun d hd => by
    have := hu d hd
    show A.units + 1 + 1 + d.depth < cLine
    omega)) hvl ⟨_, rfl, wpAny_pure ?_⟩
  obtain ⟨c, hc2⟩ := PyProof.Rows.sortedHeap_at (vs := vs) (out := (PySem.W.sortVals (PySem.W.dataKind (PySem.W.sortingHeap (h1.push (PyProof.Rows.seqObj "list" vs.toArray 0)) h1.objs.size vs) ds) false vs vs).toArray) hat
  refine ⟨_, rfl, h _ _ _ c (by rw [PySem.W.sortVals_length false rfl]; exact e.length) ?_ hp (fun b o q => ?_) hc2⟩
  · have := PySem.W.sortVals_data (enc := id) false e er' (by rw [map_id_eq]; exact hal)
    rw [map_id_eq] at this
    exact this
  · rw [PyProof.Rows.sortedHeap_old (Nat.ne_of_lt (hbig b o q)) (by rw [Heap.size_push]; exact Nat.lt_succ_of_lt (hbig b o q))]
    exact k2 b o q
theorem cr_gsorted (hu : X.A.units + 64 < cLine) : CallR X (.builtin "sorted") (rGN X.K (g1 bSorted)) := callr1 fun pins s σ H x u Q H0 F n d I rx fz bs vx hp => by
  unfold bSorted at hp
  dsimp only at hp
  split at hp
  · rename_i ds hs
    obtain ⟨hz, hp⟩ := grd_post hp
    unfold sortOk at hz
    simp only [Bool.and_eq_true, decide_eq_true_iff] at hz
    obtain ⟨z1, z2, z3, z4, z5⟩ := hz
    have hal := sortAl_ok z1
    have hk := sortKd_ok z2
    have hdp : ∀ d ∈ ds, d.depth ≤ 60 := fun d hd => of_decide_eq_true (List.all_eq_true.mp z5 d hd)
    have z6 : ds.length ≤ sizeLine := million' z4
    have fin : ∀ (out : List Value) (h' : Heap) (p : Addr) (c : Nat), out.length = ds.length → PySem.W.EachIs (StD X.K H0 (n || ds.all atom) F) out (ds.mergeSort (PySem.W.dataLe false id)) → s.heap.get? p = none → (∀ b o, s.heap.get? b = some o → h'.get? b = some o) →
        h'.get? p = some (PyProof.Rows.seqObj "list" out.toArray c) → EP X pins σ Q (.ref p) { s with heap := h' } := fun out h' p c ho eo hp0 kk hat => by
      obtain ⟨xs, r, a, hl⟩ := srt_each eo ho
      have hf : H p = none := by
        cases q : H p with
        | none => rfl
        | some u =>
          obtain ⟨_, e⟩ := objAt (I.hok p u q)
          rw [e] at hp0; cases hp0
      exact ⟨.ref p, _, I.laidN (o := .lst xs) (t' := s.toks) kk hp0 hf ⟨by rw [hl]; exact z6, out, c, r, hat⟩, rfl, hp _ F _ (Ext.allocH fz hf) ⟨p, xs, rfl, hf, same_none fz hf, upd_same, a⟩⟩
    unfold seqL at hs
    split at hs
    · cases hs
      obtain ⟨a, xs, rfl, h1, h2⟩ := vw_list fz vx
      cases rx
      obtain ⟨its, rv, pl, hz⟩ := I.list h1
      have ea := each_of rv (isA_at h2)
      refine PySem.W.sorted_data (enc := id) pl.isList ea (each_lay ea I fz z3) (by rw [map_id_eq]; exact hal) (by rw [map_id_eq]; exact hk) z6 (fun d hd => by have := hdp d hd; show X.A.units + 2 + d.depth < cLine; omega) fun out ho eo => ?_
      obtain ⟨c, hc⟩ := PyProof.Rows.sortedAll_at s.heap its out.toArray
      exact fin out _ _ c ho eo (by
        cases q : s.heap.get? (s.heap.objs.size + 1) with
        | none => rfl
        | some o => exact absurd (Nat.lt_of_succ_lt (Heap.lt_size q)) (Nat.lt_irrefl _)) (fun _ _ => PyProof.Rows.sortedAll_old) hc
    · cases hs
      obtain ⟨a, xs, rfl, _, h1, h2⟩ := vw_tup fz vx
      cases rx
      obtain ⟨its, rv, hT, _⟩ := I.tuple h1
      have ea := each_of rv (isA_at h2)
      exact sorted_tup hT ea (each_lay ea I fz z3) hal hk z6 (fun d hd => by have := hdp d hd; omega) (fun b o q => Heap.lt_size q) fin
    · cases hs
  · exact hp.elim
end
end Dn
namespace Dn
open PySem PySem.Spec L2
def keyAddr (o : Obj) (i : Nat) : Option Addr := match o.data with
  | .dict es _ => (es[i]?).bind fun en => match en.key with
    | .ref q => some q
    | _ => none
  | _ => none
/-- the pairs, each a new tuple -/
def ItiT (d : Addr) (o : Obj) (kvs : List (List Key × V)) : It :=
  ⟨fun i H => H d = some (.frz o (.dT kvs)) ∧ i < kvs.length, fun i H x H' => ∃ T k v q, kvs[i]? = some (k, v) ∧ x = .ref T ∧ H T = none ∧ keyAddr o i = some q ∧ H' = upd H T (.tup [.ref q, v]), fun i H => H d = some (.frz o (.dT kvs)) ∧ kvs.length ≤ i⟩
section
variable {X : Cx} {pins : List (Addr × Obj)} {σ : St} {H : Hp} {s : Shared} {d : Addr} {o : Obj}
theorem frzTV {kvs : List (List Key × V)} (I : L2.Inv X pins σ H s) (h : H d = some (.frz o (.dT kvs))) :
    (d == sysModules) = false ∧ s.heap.get? d = some o ∧ o.ExactDict ∧ ∃ (es : Array DictEntry) (ep : Nat), o.data = .dict es ep ∧ es.size = kvs.length ∧
      ∀ (i : Nat) (k : List Key) (v : V), kvs[i]? = some (k, v) → ∃ (en : DictEntry) (q : Addr), es[i]? = some en ∧ en.key = .ref q ∧ H q = some (.tup (k.map kV)) ∧ RelV v en.val := by
  obtain ⟨hd, z, hs, xs, pr, o', es, ep, ho, hx, hdt, he, _⟩ := I.hok d _ h
  rw [hd] at ho
  cases ho
  refine ⟨hs, hd, hx, es, ep, hdt, ?_, fun i k v e => ?_⟩
  · have l1 : es.size = xs.length := size_of_entries he
    have l2 : kvs.length = xs.length := Paired.length pr
    omega
  · obtain ⟨b, hb, e1, e2, e3⟩ := paired_get pr e
    have q := entry_at he i
    rw [hb] at q
    exact ⟨_, b.2.1, q, rfl, e2, e3⟩
theorem raw_of {h : Heap} {es : Array DictEntry} {ep : Nat} (h1 : h.get? d = some o) (h2 : o.ExactDict) (h3 : o.data = .dict es ep) : h.DictRaw d es ep := ⟨o, h1, h2, h3⟩
theorem turn_itemsT {P : Program} {w : World} {K : PySem.W.Frag} {kvs : List (List Key × V)} {elts : List Expr} {kk : Nat} {tpos : Pos} {es : Array DictEntry} {ep : Nat} (it : Addr) (hod : o.data = .dict es ep) :
    Turn P w K (.Tuple elts kk tpos) (ItiT d o kvs) [it] it (fun i h => ∃ ok ov, IsItemIter h it d i kvs.length ep ok ov) where
  mem := by simp
  obj := fun i h st b hb => by
    have e : b = it := by simpa using hb
    subst e
    obtain ⟨ok, ov, e⟩ := st
    exact ⟨_, e, fun v z => nomatch z⟩
  keep := fun i h h' st k => let ⟨ok, ov, e⟩ := st; ⟨ok, ov, k it (by simp) _ e⟩
  item := by
    intro X hP hw hK hc i pins s σ H E I hf st hg
    subst hP hw hK
    obtain ⟨hd, hi⟩ := hg
    obtain ⟨hs, hgd, hx, es', ep', hdt, hsz, ent⟩ := frzTV I hd
    obtain ⟨rfl, rfl⟩ := dict_ep hod hdt
    obtain ⟨⟨k, v⟩, hkv⟩ : ∃ p, kvs[i]? = some p := ⟨kvs[i], List.getElem?_eq_getElem hi⟩
    obtain ⟨en, q, he1, hkey, hq, rv⟩ := ent i k v hkv
    obtain ⟨hie, he2⟩ := Array.getElem?_eq_some_iff.mp he1
    obtain ⟨ok, ov, he⟩ := st
    rw [← hsz] at he
    have hlt : it < s.heap.objs.size := Heap.lt_size he
    refine wpAny_pyNext_items_item_raw he (raw_of hgd hx hdt) hie fun h' ho hT hz hk => ?_
    refine ⟨_, rfl, wpAny_letOwnedTupleGo_items (s := { s with heap := h' }) ho fun h'' he' sb => ?_⟩
    rw [he2] at hT he'
    have hT2 : h''.get? s.heap.objs.size = some { cls := .type "tuple", data := .seq #[en.key, en.val] } := (sb.2 _ (Nat.ne_of_gt hlt)).trans hT
    have new : ObjOk X.prog X.w (upd H s.heap.objs.size (.tup [.ref q, v])) h'' s.heap.objs.size (.tup [.ref q, v]) :=
      ⟨by show 2 ≤ sizeLine; decide, [en.key, en.val], .cons (show RelV (.ref q) en.key from hkey) (.cons rv .nil), ⟨_, hT2, rfl, _, rfl⟩⟩
    have I1 : L2.Inv X pins σ (upd H s.heap.objs.size (.tup [.ref q, v])) { s with heap := h'' } :=
      I.turnedNew (t' := s.toks) (ch := [it]) (fun b ob hb e => (sb.2 b (by simpa using hb)).trans (hk b ob (by simpa using hb) e)) hf (Nat.le_refl _) new
    refine ⟨.ref s.heap.objs.size, _, I1, rfl, ⟨_, k, v, q, hkv, rfl, I.hok.fresh (Nat.le_refl _), ?_, rfl⟩, ⟨en.key, en.val, ?_⟩, fun b hb => ?_⟩
    · unfold keyAddr
      rw [hod]
      dsimp only
      rw [he1]
      dsimp only [Option.bind_some]
      rw [hkey]
    · rw [← hsz]; exact he'
    · have e : b = it := by simpa using hb
      rw [e, upd_ne (Nat.ne_of_lt hlt)]
      exact (hf it (by simp)).1
  done := by
    intro X hP hw hK hc i pins s σ H E I hf st hg
    subst hP hw hK
    obtain ⟨hd, hi⟩ := hg
    obtain ⟨f0, f1, f2, f3, f4, f5⟩ := hf it (by simp)
    obtain ⟨hs, hgd, hx, es', ep', hdt, hsz, ent⟩ := frzTV I hd
    obtain ⟨rfl, rfl⟩ := dict_ep hod hdt
    obtain ⟨ok, ov, he⟩ := st
    rw [← hsz] at he
    exact wpAny_pyNext_items_end_raw (I.ok.hd hc) he (raw_of hgd hx hdt) (by omega) fun h' eb => ⟨rfl, I.turned (t' := s.toks) (fun b ob hb e => eb b ob hb e) f0 f1 f3 f4 f5⟩
  self := fun A i s Q E st h => let ⟨_, _, e⟩ := st; PySem.W.kcp_self e h
def iItemsT (td : TE) : TI := fun σ H R => td σ H fun x H1 => ∃ d o kvs, x = .ref d ∧ H1 d = some (.frz o (.dT kvs)) ∧ ((∀ i k v, kvs[i]? = some (k, v) → ∃ q, keyAddr o i = some q ∧ H1 q = some (.tup (k.map kV))) → R (ItiT d o kvs) H1)
theorem pi_itemsT {elts : List Expr} {kk : Nat} {tpos apos cpos : Pos} {e : Expr} {td : TE} (he : PE X e td) (hbase : attributeBase e "items" X.env (eval e X.env) = eval e X.env := by rfl) (hline : (apos.endLine == cpos.line) = true := by rfl) :
    PI X (.Tuple elts kk tpos) (.Call (.Attribute e "items" apos) [] [] cpos) (iItemsT td) := by
  refine ⟨fun pins s σ H R I h => ?_⟩
  refine wpAny_Call_method (T := "dict") (id := "dict.items") hbase rfl hline F.plainAttrs_dict F.slot_dict_items F.type_dict_items (thn (he.run pins s σ H _ I h) fun u s1 ⟨x, H1, I1, rx, d, o, kvs, ex, hd, q⟩ => ?_)
  subst ex
  obtain rfl : u = Value.ref d := rx
  obtain ⟨hs, hgd, hx, es, ep, hdt, hsz, ent⟩ := frzTV I1 hd
  have q := q fun i k v hkv => by
    obtain ⟨en, q, he1, hkey, hq, _⟩ := ent i k v hkv
    refine ⟨q, ?_, hq⟩
    unfold keyAddr
    rw [hdt]
    dsimp only
    rw [he1]
    dsimp only [Option.bind_some]
    rw [hkey]
  have hraw := raw_of hgd hx hdt
  refine ⟨hraw.typeIs, ?_, ?_⟩
  · exact fun a e => by cases e; exact ⟨o, hgd, hx.2.1⟩
  have I2 : L2.Inv X pins σ H1 { s1 with heap := s1.heap.push { cls := .type "dict_items", data := .fields #[.ref d] } } := I1.kept (t' := s1.toks) fun b ob q => Heap.get?_push_of_some _ q
  have fin : wpAny (model X.prog X.w) X.A (pyIter (.ref s1.heap.objs.size)) (PIE X pins σ (.Tuple elts kk tpos) R) X.xe { s1 with heap := s1.heap.push { cls := .type "dict_items", data := .fields #[.ref d] } } := by
    refine wpAny_pyIter_items_raw (d := d) ⟨_, Heap.get?_push_size _ rfl, rfl, rfl⟩ (hraw.at fun o e => Heap.get?_push_of_some _ e) (pi_one (tk := s1.toks) I2 _ (turn_itemsT _ hdt) ⟨.none, .none, ?_⟩ q)
    rw [← hsz]
    exact Heap.get?_push_size _ rfl
  show wpAny _ _ (callWith cpos (.builtin "dict.items") [.ref d] [] []) _ X.xe s1
  exact method_meetsIn F.slot_dict_items F.entry_dict_items rfl (PySem.evalArgs_none ⟨rfl, hraw.typeIs, F.args_dict_items_1 _, _, meets_dict_items_raw d hs, ⟨es, ep, hraw⟩, fin⟩)
end
section
variable {K : PySem.W.Frag} {H0 F0 F H : Hp} {env : Env} {σ : St} {fp : Nat → Addr → Prop}
theorem RelF.fill {i : Nat} {s : Sl} {v : V} {g : Addr → Prop} (r : RelF K H0 F0 env σ F H fp) (hi : i < env.length) (hv : σ[i]? = some (some v)) (h : SlIs K H0 F H g v s) (hd : ∀ j a, j ≠ i → fp j a → ¬ g a) (ho : ∀ a, g a → F a = none ∧ H0 a = none ∧ H a ≠ none) :
    RelF K H0 F0 (env.set i (some s)) σ F H (fun j a => if j = i then g a else fp j a) where
  fz := r.fz
  base := r.base
  len := by simpa using r.len
  sl := fun j t q => by
    by_cases z : j = i
    · subst z
      rw [List.getElem?_set_self hi] at q
      cases q
      refine ⟨v, hv, ?_⟩
      have e : (fun a => if j = j then g a else fp j a) = g := by funext a; rw [if_pos rfl]
      rw [e]; exact h
    · rw [List.getElem?_set_ne (Ne.symm z)] at q
      obtain ⟨u, g1, g2⟩ := r.sl j t q
      have e : (fun a => if j = i then g a else fp j a) = fp j := by funext a; rw [if_neg z]
      refine ⟨u, g1, ?_⟩
      rw [e]; exact g2
  dis := fun j k a h1 h2 => by
    by_cases z1 : j = i <;> by_cases z2 : k = i
    · rw [z1, z2]
    · simp only [if_pos z1, if_neg z2] at h1 h2
      exact absurd h1 (hd k a z2 h2)
    · simp only [if_neg z1, if_pos z2] at h1 h2
      exact absurd h2 (hd j a z1 h1)
    · simp only [if_neg z1, if_neg z2] at h1 h2
      exact r.dis _ _ a h1 h2
  out := fun j a h1 => by
    by_cases z : j = i
    · simp only [if_pos z] at h1; exact ho a h1
    · simp only [if_neg z] at h1; exact r.out j a h1
  new := r.new
  f0 := r.f0
theorem set_set {α : Type} {l : List α} {i : Nat} {x y : α} : (l.set i x).set i y = l.set i y := by simp
/-- what the slot's own dict is -/
theorem Rel.ownD {i : Nat} {q : List (List Key × PyData)} (r : Rel K H0 F0 env σ F H) (h : env[i]? = some (some (.od q))) : ∃ p xs, σ[i]? = some (some (.ref p)) ∧ H p = some (.dT xs) ∧ Dr K H0 F xs q := by
  obtain ⟨fp, rf⟩ := r
  obtain ⟨v, hv, p, xs, rfl, h1, _, h3⟩ := rf.sl i _ h
  exact ⟨p, xs, hv, h1, h3⟩
theorem Rel.mutD {i : Nat} {q q' : List (List Key × PyData)} {p : Addr} {xs' : List (List Key × V)} (r : Rel K H0 F0 env σ F H) (h : env[i]? = some (some (.od q))) (hp : σ[i]? = some (some (.ref p))) (h' : Dr K H0 F xs' q') :
    Rel K H0 F0 (env.set i (some (.od q'))) σ F (upd H p (.dT xs')) := by
  obtain ⟨fp, rf⟩ := r
  obtain ⟨v, hv, p', xs, rfl, h1, h2, h3⟩ := rf.sl i _ h
  rw [hp] at hv; cases hv
  have hi : i < env.length := (List.getElem?_eq_some_iff.mp h).1
  obtain ⟨o1, o2, o3⟩ := rf.out i p h2
  have r1 := rf.scratch (H' := upd H p (.dT xs')) (i := i) fun a ha => upd_ne fun z => ha (by rw [z]; exact h2)
  have r2 := r1.fill (g := fun a => a = p) (s := .od q') (by simpa using hi) hp ⟨p, xs', rfl, upd_same, rfl, h'⟩ (fun j a hj ha z => by
    have z : a = p := z
    subst z
    exact hj (rf.dis j i a ha.2 h2)) fun a z => by
    have z : a = p := z
    subst z
    exact ⟨o1, o2, by rw [upd_same]; exact fun z => nomatch z⟩
  rw [set_set] at r2
  exact ⟨_, r2⟩
theorem Rel.newD {i : Nat} {p : Addr} (r : Rel K H0 F0 env σ F H) (hp : H p = none) : Rel K H0 F0 (env.set i (some (.od []))) (σ.set i (some (.ref p))) F (upd H p (.dT [])) := by
  have r1 := r.heap (same_new (o := .dT []) hp)
  obtain ⟨fp, r0⟩ := r
  have r1 : RelF K H0 F0 env σ F (upd H p (.dT [])) fp := r0.grow (same_new hp) (Same.refl F) (r0.fz.trans (same_new hp)) (fun i a h => (r0.out i a h).1) fun _ z => .inl z
  refine Rel.putS ⟨_, r1.push (g := fun a => a = p) (s := .od []) ⟨p, [], rfl, upd_same, rfl, .nil⟩ (fun i a _ ha z => ?_) fun a z => ?_⟩
  · have z : a = p := z
    subst z; exact (r0.out i a ha).2.2 hp
  · have z : a = p := z
    subst z; exact ⟨same_none r0.fz hp, same_none r0.base hp, by rw [upd_same]; exact fun z => nomatch z⟩
theorem Dr.isL {a : Addr} {o : Obj} {r : List (List Key × V)} {q : List (List Key × PyData)} (h : Dr K H0 F r q) (e : F a = some (.frz o (.dT r))) : Is K H0 false F (.ref a) (dL q) := by
  have := Is.dl (K := K) (H0 := H0) (n := false) e (fun z => nomatch z) h.isA
  rw [h.zip] at this
  exact this
/-- the slot's own dict is locked and shared -/
theorem Rel.lockD {i : Nat} {q : List (List Key × PyData)} {p : Addr} {xs : List (List Key × V)} (o : Obj) (r : Rel K H0 F0 env σ F H) (h : env[i]? = some (some (.od q))) (hp : σ[i]? = some (some (.ref p))) (hx : H p = some (.dT xs)) (hd : Dr K H0 F xs q) :
    Same F (upd F p (.frz o (.dT xs))) ∧ Rel K H0 F0 (env.set i none) σ (upd F p (.frz o (.dT xs))) (upd H p (.frz o (.dT xs))) ∧ Is K H0 false (upd F p (.frz o (.dT xs))) (.ref p) (dL q) := by
  obtain ⟨fp, rf⟩ := r
  obtain ⟨v, hv, p', xs2, rfl, h1, h2, h3⟩ := rf.sl i _ h
  rw [hp] at hv; cases hv
  obtain ⟨o1, o2, o3⟩ := rf.out i p h2
  have e1 : Same F (upd F p (.frz o (.dT xs))) := same_new o1
  have r1 := rf.scratch (H' := upd H p (.frz o (.dT xs))) (i := i) fun a ha => upd_ne fun z => ha (by rw [z]; exact h2)
  have r2 := r1.grow (H' := upd H p (.frz o (.dT xs))) (F' := upd F p (.frz o (.dT xs))) (Same.refl _) e1 (fun a u e => by
    by_cases z : a = p
    · subst z; rw [upd_same] at e ⊢; exact e
    · rw [upd_ne z] at e ⊢; exact rf.fz a u e) (fun j a ha => by
    have : a ≠ p := fun z => by subst z; exact ha.1 (rf.dis j i a ha.2 h2)
    rw [upd_ne this]; exact (rf.out j a ha.2).1) fun a z => by
    by_cases y : a = p
    · subst y; exact .inr o2
    · rw [upd_ne y] at z; exact .inl z
  exact ⟨e1, ⟨_, r2⟩, (hd.to e1).isL upd_same⟩
end
section
variable {X : Cx} {W : WX} {e a b ek ev : Expr} {f fa fb : FE} {pos pos' : Pos} {x : Str}
/-- x = {} -/
def fNewD (i : Nat) : FS := fun env => .ok (.nx (env.set i (some (.od []))))
theorem s_newD (i : Nat) {dpos : Pos} (hN : X.N.Nodup) (hi : X.N[i]? = some x := by rfl) (hx : L2.Loc X.env.scope x := by first | exact Or.inl rfl | exact Or.inr rfl) (hs : swapsWith (.Dict [] [] dpos) (some (.Name x pos')) pos.line X.env = pure false := by rfl)
    (hf : X.fn x = true ∨ X.env.scope.names.lookup x = some .local := by first | exact .inl rfl | exact .inr rfl) : DS X W (.Assign [.Name x pos'] (.Dict [] [] dpos) pos) (fNewD i) :=
  ps_le (ps_set hN hi hx pe_dnewT hs hf) fun D σ H ⟨H0, F0, F, env, r, q⟩ => fun p hp => q _ F _ (r.newD hp) (Same.refl F)
/-- x[k] = v -/
def isOd (e : Env) (i : Nat) : Bool := match e[i]? with
  | some (some (.od _)) => true
  | _ => false
def fPutD (i : Nat) (fk fv : FV) : FS := fun env => (fv env).bind fun v => grd (isOd v.1 i) <| (fk v.1).bind fun k => match k.1[i]? with
  | some (some (.od q)) => match tkey k.2.2 with
    | some key => grd (atom v.2.2 && decide (q.length < 1000000)) (.ok (.nx (k.1.set i (some (.od (putG q key v.2.2))))))
    | none => .bad
  | _ => .bad
theorem vw_atom {K : PySem.W.Frag} {H0 F H : Hp} {v : V} {n : Bool} {d : PyData} (h : Vw K H0 F H v (n, d)) (ha : atom d = true) {H1 F1 : Hp} {m : Bool} : Is K H1 m F1 v d := by
  rcases h with h | ⟨_, _, _, _, h, _⟩
  · exact h.atom ha
  · cases h; cases ha
theorem tkey_is {K : PySem.W.Frag} {H0 F : Hp} {n : Bool} {v : V} {d : PyData} {key : List Key} (h : Is K H0 n F v d) (e : tkey d = some key) : ∃ b, v = .ref b ∧ F b = some (.tup (key.map kV)) := by
  unfold tkey at e
  split at e
  · rename_i ds
    cases h with
    | @tup b ys _ hb ha =>
      have := keyL_is ha e
      subst this
      exact ⟨b, rfl, hb⟩
  · cases e
theorem s_putD (i : Nat) {npos spos : Pos} (hu : X.A.units + 64 < cLine) (hek : DE X W ek fa) (hev : DE X W ev fb) (hi : X.N[i]? = some x := by rfl) (hv : Vis X.env.scope x := by first | exact Or.inl rfl | exact Or.inr (Or.inl rfl) | exact Or.inr (Or.inr rfl)) (hd : (x == ("__debug__" : Str)) = false := by decide) (hcd : (x == ("__classdict__" : Str)) = false := by decide)
    (hs : swapsWith ev (some (.Subscript (.Name x npos) ek spos)) pos.line X.env = pure false := by rfl) : DS X W (.Assign [.Subscript (.Name x npos) ek spos] ev pos) (fPutD i (st fa) (rd fb)) :=
  ps_le (ps_dput (by omega) (pe_var hi hv hd hcd) hek.d hev.v hs) fun D σ H ⟨H0, F0, F, env, r, q⟩ => by
    refine ⟨H0, F0, F, env, r, ?_⟩
    unfold fPutD at q
    refine Rs.post_mono (Rs.post_bind.mp q) (fun p hp v F1 H1 r1 vv e1 e2 => ?_) fun _ _ z => z.p (Same.refl F)
    obtain ⟨env1, n1, d1⟩ := p
    dsimp only at hp vv r1
    obtain ⟨hod, hp⟩ := grd_post hp
    -- the name is read ahead of the key, the key's making leaves the slots
    have key : ∃ u, σ[i]? = some (some u) ∧ tD X.K X.mg W (st fa) σ H1 fun y H3 => ∃ (c : Addr) (H4 : Hp), u = .ref c ∧ DPut H3 c y v H4 ∧ D.nx σ H4 := by
      have hlook : ∃ u, σ[i]? = some (some u) := by
        unfold isOd at hod
        split at hod
        · rename_i qq hq
          obtain ⟨c, xs, g1, _⟩ := r1.ownD hq
          exact ⟨_, g1⟩
        · cases hod
      obtain ⟨u, hu⟩ := hlook
      refine ⟨u, hu, H0, F0, F1, env1, r1, ?_⟩
      refine Rs.post_mono (Rs.post_bind.mp hp) (fun p2 hp2 y F3 H3 r3 iy e3 e4 => ?_) fun _ _ z => z.p e2
      obtain ⟨env2, n2, d2⟩ := p2
      dsimp only at hp2 iy r3
      split at hp2
      · rename_i qq hq
        split at hp2
        · rename_i kk hk
          obtain ⟨hz, hp2⟩ := grd_post hp2
          obtain ⟨z1, z2⟩ := Bool.and_eq_true_iff.mp hz
          obtain ⟨c, xs, g1, g2, g3⟩ := r3.ownD hq
          rw [hu] at g1; cases g1
          obtain ⟨b, rfl, hb⟩ := tkey_is iy hk
          have hxs : xs.length < 1000000 := by rw [g3.length]; exact of_decide_eq_true z2
          refine ⟨c, _, rfl, DPut.t g2 (r3.fz _ _ hb) (million hxs), hp2 σ F3 _ (r3.mutD hq hu (g3.put (vw_atom vv z1))) (e2.trans e4)⟩
        · exact hp2.elim
      · exact hp2.elim
    obtain ⟨u, hu, hk⟩ := key
    refine ⟨u, hu, ?_⟩
    obtain ⟨a1, a2, a3, a4, a5, a6⟩ := hk
    refine ⟨a1, a2, a3, a4, a5, Rs.post_mono a6 (fun p hp v F' H' g1 g2 g3 g4 => ?_) fun _ _ z => z⟩
    obtain ⟨c, H4, rfl, h1, h2⟩ := hp v F' H' g1 g2 g3 g4
    exact ⟨c, H4, rfl, h1, h2⟩
end
section
variable {X : Cx} {W : WX} {e a b ek ev : Expr} {f fa fb : FE} {pos pos' : Pos} {x : Str}
def tFrz (te : TE) : TE := fun σ H Q => te σ H fun v H1 => ∃ d u, v = .ref d ∧ H1 d = some u ∧ Mut (some u) ∧ ∀ o, Q v (upd H1 d (.frz o u))
theorem pe_frz {te : TE} (he : PE X e te) : PE X e (tFrz te) := ⟨fun pins s σ H Q I h => thn (he.run pins s σ H _ I h) fun u s1 ⟨v, H1, I1, rv, d, o, ev, hd, mu, q⟩ => by
  subst ev
  obtain ⟨od, I2⟩ := I1.lock hd mu
  exact ⟨.ref d, _, I2, rv, q od⟩⟩
/-- return x, x a dict that the slot alone holds -/
def fRetD (i : Nat) : FS := fun env => match env[i]? with
  | some (some (.od q)) => .ok (.rt (.sh false (dL q)))
  | _ => .bad
theorem s_retD (i : Nat) {npos : Pos} (hi : X.N[i]? = some x := by rfl) (hv : Vis X.env.scope x := by first | exact Or.inl rfl | exact Or.inr (Or.inl rfl) | exact Or.inr (Or.inr rfl)) (hd : (x == ("__debug__" : Str)) = false := by decide) (hcd : (x == ("__classdict__" : Str)) = false := by decide) :
    DS X W (.Return (some (.Name x npos)) pos) (fRetD i) :=
  ps_le (ps_ret (pe_frz (pe_var hi hv hd hcd))) fun D σ H ⟨H0, F0, F, env, r, q⟩ => by
    unfold fRetD at q
    split at q
    · rename_i qq hq
      obtain ⟨p, xs, g1, g2, g3⟩ := r.ownD hq
      refine ⟨_, g1, p, .dT xs, rfl, g2, trivial, fun o => ?_⟩
      obtain ⟨e1, r1, is⟩ := r.lockD o hq g1 g2 g3
      exact q (.ref p) _ _ e1 r1.fz r1.base (rel_new r1) is
    · exact q.elim
/-- {(..): n}, locked at once -/
def tDispT (tk tv : TE) : TE := fun σ H Q => ∀ p, H p = none → tk σ (upd H p (.dT [])) fun y H1 => tv σ H1 fun v H2 => ∃ (key : List Key) (b : Addr), y = .ref b ∧ H2 b = some (.tup (key.map kV)) ∧ H2 p = some (.dT []) ∧ Q (.ref p) (upd H2 p (.dT [(key, v)]))
theorem pe_dispT {tk tv : TE} (hu : X.A.units + 64 < cLine) (hk : PE X ek tk) (hv : PE X ev tv) : PE X (.Dict [some ek] [ev] pos) (tDispT tk tv) := by
  refine ⟨fun pins s σ H Q I q => ?_⟩
  have hn := I.hok.fresh (Nat.le_refl s.heap.objs.size)
  have I1 := I.laid (a := s.heap.objs.size) (o := .dT []) (h' := s.heap.push { cls := .type "dict", data := .dict #[] }) (t' := s.toks) (fun _ _ q => Heap.get?_push_of_some _ q) (Nat.le_refl _) (dt_empty s.heap I.big)
  rw [arm_eval_Dict, zip_pairTrees [some ek] [ev] X.env pos rfl rfl, dictDisplay_pairs _ (fun z => by have := pairTrees_length [some ek] [ev] X.env pos rfl rfl; rw [z] at this; cases this) (by rw [pairTrees_length [some ek] [ev] X.env pos rfl rfl]; show 1 < 17; decide)]
  refine wpAny_bind (wpAny_standAt (wpAny_bind (wpAny_subDictH (knd := tupleKind (mixKind X.prog X.w)) (Q := fun d s' => wpAny (model X.prog X.w) X.A (pure (Value.ref d)) (EP X pins σ Q) X.xe s') ?_ (by rw [pairTrees_length [some ek] [ev] X.env pos rfl rfl]; show 1 ≤ 15; decide) ?_)))
  · first
    | (show X.A.units < cLine; omega)
    | (show X.A.units + 1 < cLine; omega)
  · refine pairTrees_cons_walk (thn (hk.run pins _ σ _ _ I1 (q _ hn)) fun u s2 ⟨y, H2, I2, ry, q2⟩ => thn (hv.run pins _ σ _ _ I2 q2) fun w s3 ⟨z, H3, I3, rz, key, b, ey, hb, hp, q3⟩ => pairTrees_nil_walk ?_)
    subst ey
    cases ry
    obtain ⟨zz, hd, xs, rel, dd⟩ := dt_of I3.hok hp
    cases rel
    refine ⟨[(key, b, w)], ⟨rfl, rfl, key_of I3.hok hb, trivial⟩, dd, fun h' tk dd' hs => wpAny_pure ⟨.ref s.heap.objs.size, _, ?_, rfl, q3⟩⟩
    have he : ∃ o, h'.get? s.heap.objs.size = some o := let ⟨o, _, _, ho, _⟩ := dd'; ⟨o, ho⟩
    refine d_write I3 (by rw [hp]; exact True.intro) hs he ?_
    obtain ⟨o, es, ep, ho, h2, h3, h4, _, h5⟩ := dd'
    have ne : b ≠ s.heap.objs.size := fun z => by rw [z, hp] at hb; cases hb
    exact ⟨by show 1 ≤ sizeLine; decide, hd, [(key, b, w)], .cons ⟨rfl, by rw [upd_ne ne]; exact hb, rz⟩ .nil, o, es, ep, ho, h2, h3, h4, h5⟩
end
end Dn
namespace Dn
open PySem PySem.Spec L2
section
variable {X : Cx} {W : WX} {e a b ek ev : Expr} {f fa fb : FE} {pos pos' : Pos} {x : Str}
/-- {(..): n} -/
def fDispT (fk fv : FV) : FE := fun env => (noex (fk env)).bind fun k => match tkey k.2.2 with
  | some key => (noex (fv k.1)).bind fun v => grd (atom v.2.2) (.ok (v.1, .sh false (dL [(key, v.2.2)])))
  | none => .bad
theorem d_dispT (hu : X.A.units + 64 < cLine) (hk : DE X W0 ek fa) (hv : DE X W0 ev fb) : DE X W (.Dict [some ek] [ev] pos) (fDispT (st fa) (st fb)) :=
  pe_le (pe_frz (pe_dispT hu hk.d hv.d)) fun σ H Q ⟨H0, F0, F, env, r, q⟩ => fun p hp => by
    have f0 : F0 p = none := by obtain ⟨fp, rf⟩ := id r; exact same_none rf.f0 (same_none rf.fz hp)
    have b0 : H0 p = none := same_none r.base hp
    refine ⟨upd H0 p (.dT []), F0, F, env, r.baseNew hp, ?_⟩
    unfold fDispT at q
    have sH : Same H (upd H p (.dT [])) := same_new hp
    refine Rs.post_mono (noex_post (E' := fun _ _ => False) q) (fun k hk2 y F1 H1 r1 iy e1 e2 => ?_) fun _ _ z => z.elim
    obtain ⟨env1, n1, d1⟩ := k
    dsimp only at hk2 iy r1
    split at hk2
    · rename_i key hkey
      refine ⟨upd H0 p (.dT []), F0, F1, env1, r1, ?_⟩
      refine Rs.post_mono (noex_post (E' := fun _ _ => False) hk2) (fun v hv2 z F2 H2 r2 iz e3 e4 => ?_) fun _ _ w => w.elim
      obtain ⟨env2, n2, d2⟩ := v
      dsimp only at hv2 iz r2
      obtain ⟨ha, hv2⟩ := grd_post hv2
      obtain ⟨b, rfl, hb⟩ := tkey_is iy hkey
      have hp2 : H2 p = some (.dT []) := e3 _ _ (e1 _ _ upd_same)
      have fp : F2 p = none := base_f r2 f0
      refine ⟨key, b, rfl, r2.fz _ _ (e4 _ _ hb), hp2, p, .dT [(key, z)], rfl, upd_same, trivial, fun o => ?_⟩
      rw [upd_upd]
      have r3 := (r2.baseSet (o' := .frz o (.dT [(key, z)])) f0).baseShare f0 b0 upd_same
      refine hv2 (.ref p) _ _ ⟨r3, Dr.isL (r := [(key, z)]) (.cons (iz.atom ha) .nil) upd_same⟩ (fun c u hu2 => ?_) ((e2.trans e4).trans (same_new fp))
      have hne : c ≠ p := fun w => by rw [w, hp] at hu2; cases hu2
      rw [upd_ne hne]
      exact e3 _ _ (e1 _ _ (by rw [upd_ne hne]; exact hu2))
    · exact hk2.elim
def gInT (neg : Bool) : G2 := fun p q => match entsT q.2, tkey p.2 with
  | some kvs, some k => sc (.bool (if neg = true then (findT kvs k).isNone else (findT kvs k).isSome))
  | _, _ => .bad
theorem gInT_no {neg : Bool} : ∀ p q e x, gInT neg p q ≠ .ex e x := fun p q e x h => by
  unfold gInT at h
  split at h <;> cases h
theorem vw_tkey {K : PySem.W.Frag} {H0 F H : Hp} {v : V} {n : Bool} {d : PyData} {key : List Key} (fz : Same F H) (h : Vw K H0 F H v (n, d)) (e : tkey d = some key) : ∃ b, v = .ref b ∧ H b = some (.tup (key.map kV)) := by
  rcases h with h | ⟨_, _, _, _, h, _⟩
  · obtain ⟨b, h1, h2⟩ := tkey_is h e
    exact ⟨b, h1, fz _ _ h2⟩
  · cases h; cases e
/-- what a dict gives at a key, looked at -/
theorem vw_dget {K : PySem.W.Frag} {H0 F H : Hp} {v u : V} {n m : Bool} {d e : PyData} {kvs : List (PyData × PyData)} {k : List Key} (fz : Same F H) (h : Vw K H0 F H v (n, d)) (h1 : entsT d = some kvs) (g : Vw K H0 F H u (m, e)) (g1 : tkey e = some k) :
    ∃ a o, v = .ref a ∧ DGet H a u o ∧ ((o = none ∧ findT kvs k = none) ∨ ∃ y d', o = some y ∧ findT kvs k = some d' ∧ Is K H0 false F y d') := by
  obtain ⟨a, r, q, rfl, rfl, h2, h3⟩ := vw_dM h h1
  obtain ⟨b, rfl, hb⟩ := vw_tkey fz g g1
  rw [findT_enc]
  rcases h3.val (k := k) with ⟨y, d', z1, z2, z3⟩ | ⟨z1, z2⟩
  · exact ⟨a, some y, rfl, .inr ⟨r, k, b, same_rd fz h2, rfl, hb, z1.symm⟩, .inr ⟨y, d', rfl, z2, z3⟩⟩
  · exact ⟨a, none, rfl, .inr ⟨r, k, b, same_rd fz h2, rfl, hb, z1.symm⟩, .inl ⟨rfl, z2⟩⟩
theorem op_gInTd (hu : X.A.units + 64 < cLine) : OpR X (compareOp .In) (rG2 X.K (gInT false)) := opr_mk fun pins s σ H x y v u Q H0 F m n d e I rx ry fz bs vx vy hp => by
  unfold gInT at hp
  dsimp only at hp
  split at hp
  · rename_i kvs k h1 h2
    obtain ⟨a, o, rfl, hg, hc⟩ := vw_dget fz vy h1 vx h2
    cases ry
    refine d_in (by omega) I hg rx fun s' I' => ⟨.bl _, H, I', rfl, ?_⟩
    have : o.isSome = (findT kvs k).isSome := by
      rcases hc with ⟨e1, e2⟩ | ⟨y, d', e1, e2, _⟩ <;> rw [e1, e2] <;> rfl
    rw [this]
    exact sc_ok hp fz (.bl _)
  · exact hp.elim
theorem op_gNotInTd (hu : X.A.units + 64 < cLine) : OpR X (compareOp .NotIn) (rG2 X.K (gInT true)) := opr_mk fun pins s σ H x y v u Q H0 F m n d e I rx ry fz bs vx vy hp => by
  unfold gInT at hp
  dsimp only at hp
  split at hp
  · rename_i kvs k h1 h2
    obtain ⟨a, o, rfl, hg, hc⟩ := vw_dget fz vy h1 vx h2
    cases ry
    refine d_notIn (by omega) I hg rx fun s' I' => ⟨.bl _, H, I', rfl, ?_⟩
    have : (!o.isSome) = (findT kvs k).isNone := by
      rcases hc with ⟨e1, e2⟩ | ⟨y, d', e1, e2, _⟩ <;> rw [e1, e2] <;> rfl
    rw [this]
    exact sc_ok hp fz (.bl _)
  · exact hp.elim
def gAtT : G2 := fun p q => match entsT p.2, tkey q.2 with
  | some kvs, some k => match findT kvs k with
    | some d => .ok (.sh (atom d) d)
    | none => .bad
  | _, _ => .bad
theorem gAtT_no : ∀ p q e x, gAtT p q ≠ .ex e x := fun p q e x h => by
  unfold gAtT at h
  split at h
  · split at h <;> cases h
  · cases h
theorem d_atT (hu : X.A.units + 64 < cLine) (ha : DE X W a fa) (hb : DE X W b fb) (hs : NoSl b := by intro _ _; rfl) : DE X W (.Subscript a b pos) (f2 gAtT (rd fa) (rd fb)) :=
  pe_le (pe_dget (by omega) ha.v hb.v hs) fun σ H Q ⟨H0, F0, F, env, r, h⟩ => by
    refine ⟨H0, F0, F, env, r, ?_⟩
    unfold f2 at h
    refine Rs.post_mono (Rs.post_bind.mp h) (fun p hp v F1 H1 r1 v1 e1 e2 => ?_) fun _ _ x => x
    refine ⟨H0, F0, F1, p.1, r1, ?_⟩
    refine Rs.post_mono (Rs.post_bind.mp hp) (fun q hq u F2 H2 r2 v2 e3 e4 => ?_) fun _ _ x => x.to e2 e1
    have hq := Rs.post_bind.mp hq
    obtain ⟨q1, n2, d2⟩ := q
    obtain ⟨p1, n1, d1⟩ := p
    dsimp only at hq v1 v2 r2
    unfold gAtT at hq
    dsimp only at hq
    split at hq
    · rename_i kvs k h1 h2
      obtain ⟨c, o, rfl, hg, hc⟩ := vw_dget r2.fz (v1.to e4 e3) h1 v2 h2
      split at hq
      · rename_i d hd
        rcases hc with ⟨_, e6⟩ | ⟨y, d', e5, e6, iy⟩
        · rw [hd] at e6; cases e6
        · rw [hd] at e6; cases e6
          subst e5
          have := iy.orAtom (Same.refl F2)
          rw [Bool.false_or] at this
          exact ⟨c, y, rfl, hg, hq y F2 H2 ⟨r2, this⟩ (e1.trans e3) (e2.trans e4)⟩
      · exact hq.elim
    · exact hq.elim
end
section
variable {X : Cx} {W : WX} {e : Expr} {es : List Expr} {f : FE} {g : FA} {p : Pos}
def fStar (f : FV) (g : FA) : FA := fun env => (f env).bind fun p => match seqL p.2.2 with
  | some ds => (g p.1).bind fun q => .ok (q.1, ds.map (fun d => (p.2.1 || atom d, d)) ++ q.2)
  | none => .bad
theorem star_all {K : PySem.W.Frag} {H0 F H : Hp} {n : Bool} : ∀ {xs : List V} {ds : List PyData} {ys : List V} {ps : List Dv}, IsA K H0 n F xs ds → All2 (IsV K H0 F H) ys ps → All2 (IsV K H0 F H) (xs ++ ys) (ds.map (fun d => (n || atom d, d)) ++ ps)
  | _, _, _, _, .nil, t => t
  | _, _, _, _, .cons h t, u => .cons (is_at h) (star_all t u)
theorem is_seq {K : PySem.W.Frag} {H0 F H : Hp} {v : V} {n : Bool} {d : PyData} {ds : List PyData} (fz : Same F H) (h : Is K H0 n F v d) (e : seqL d = some ds) : ∃ a xs, v = .ref a ∧ (SqT K H a xs ∨ SqL K H a xs) ∧ IsA K H0 n F xs ds := by
  unfold seqL at e
  split at e
  · cases e
    cases h with | lst hs _ ha => exact ⟨_, _, rfl, .inr (Same.seq fz hs), ha⟩
  · cases e
    cases h with | tup hs ha => exact ⟨_, _, rfl, .inl (.inl (.inl (fz _ _ hs))), ha⟩
  · cases e
theorem dad_star (h : DE X W e f) (t : DAD X W es g) (hs : starEach (.Starred e p :: es) X.env = (true, eval e X.env) :: starEach es X.env := by rfl) : DAD X W (.Starred e p :: es) (fStar (st f) g) :=
  pa_le (StX.pa_star h.d t hs) fun σ H Q ⟨H0, F0, F, env, r, q⟩ => by
    refine ⟨H0, F0, F, env, r, ?_⟩
    unfold fStar at q
    refine Rs.post_mono (Rs.post_bind.mp q) (fun p hp v F1 H1 r1 v1 e1 e2 => ?_) fun _ _ x => x
    obtain ⟨env1, n1, d1⟩ := p
    dsimp only at hp v1 r1
    split at hp
    · rename_i ds hd
      obtain ⟨a, xs, rfl, hq, ha⟩ := is_seq r1.fz v1 hd
      refine ⟨a, xs, rfl, hq, H0, F0, F1, env1, r1, ?_⟩
      refine Rs.post_mono (Rs.post_bind.mp hp) (fun q hq vs F2 H2 r2 v2 e3 e4 => ?_) fun _ _ x => x.to e2 e1
      exact hq _ F2 H2 r2 (star_all (ha.to e4) v2) (e1.trans e3) (e2.trans e4)
    · exact hp.elim
end
end Dn
namespace Dn
open PySem PySem.Spec L2
def entsL : PyData → Option (List (PyData × PyData))
  | .dict ((.int 1, .none) :: kvs) => some kvs
  | _ => none
theorem entsL_some {d : PyData} {kvs : List (PyData × PyData)} (h : entsL d = some kvs) : d = .dict ((.int 1, .none) :: kvs) := by
  unfold entsL at h
  split at h
  · cases h; rfl
  · cases h
def innerE (j : Nat) (env : Env) : Env := (env.map fun s => s.map fun s => .sh (atom s.data) s.data).set j (env.getD j none)
def onlyD (n j : Nat) (q : List (List Key × PyData)) : Env := (List.replicate n none).set j (some (.od q))
def odOf (e : Env) (j : Nat) : Option (List (List Key × PyData)) := match e[j]? with
  | some (some (.od q)) => some q
  | _ => none
def endW (n j : Nat) (o : Rs Out) : Rs Out := match o with
  | .ok (.nx e) => match odOf e j with
    | some q => grd (q.all (fun p => atom p.2) && decide (e.length = n)) (.ok (.nx (onlyD n j q)))
    | none => .bad
  | _ => .bad
def fItemsW (j : Nat) (fe : FV) (g : FG) (body : FS) : FS := fun env => (fe env).bind fun p => match entsL p.2.2 with
  | some kvs => match odOf p.1 j with
    | some _ => endW p.1.length j (fLoop g body (kvs.map fun kv => (false, .tuple [kv.1, kv.2])) (innerE j p.1))
    | none => .bad
  | none => .bad
section
variable {K : PySem.W.Frag} {H0 H1 F0 F F' H : Hp} {env : Env} {σ : St} {n : Bool}
theorem odOf_some {e : Env} {j : Nat} {q : List (List Key × PyData)} (h : odOf e j = some q) : e[j]? = some (some (.od q)) := by
  unfold odOf at h
  split at h
  · rename_i q' hq; cases h; exact hq
  · cases h
theorem keyIsA : ∀ k : List Key, IsA K H0 n F (k.map kV) (k.map kD)
  | [] => .nil
  | .inl i :: k => .cons (.int i) (keyIsA k)
  | .inr x :: k => .cons (.str x) (keyIsA k)
theorem Dr.atoms : ∀ {r : List (List Key × V)} {q : List (List Key × PyData)}, Dr K H0 F r q → (q.all fun p => atom p.2) = true → Dr K H1 F' r q
  | _, _, .nil, _ => .nil
  | _, _, .cons h t, e => by
    rw [List.all_cons, Bool.and_eq_true] at e
    exact .cons (h.atom e.1) (t.atoms e.2)
theorem is_dLk {v : V} {d : PyData} {kvs : List (PyData × PyData)} (h : Is K H0 n F v d) (e : entsL d = some kvs) : ∃ (a : Addr) (o : Obj) (r : List (List Key × V)) (ds : List PyData), v = .ref a ∧ F a = some (.frz o (.dT r)) ∧ IsA K H0 n F (r.map (·.2)) ds ∧ kvs = (r.map fun p => PyData.tuple (p.1.map kD)).zip ds := by
  have e := entsL_some e
  subst e
  generalize e : ((.int 1, .none) :: kvs : List (PyData × PyData)) = l at h
  cases h with
  | @dk a kv ds h1 h2 h3 => cases (List.cons.inj e).1
  | @dt a kv ds h1 h2 h3 => cases (List.cons.inj e).1
  | exc _ _ _ _ => cases (List.cons.inj e).1
  | @dl a o kv ds h1 h2 h3 =>
    obtain ⟨_, rfl⟩ := List.cons.inj e
    exact ⟨a, o, kv, ds, rfl, h1, h3, rfl⟩
/-- all but the one dict as frozen -/
def frzBut (H : Hp) (p : Addr) : Hp := fun a => if a = p then none else H a
theorem frzBut_ne {H : Hp} {p a : Addr} (h : a ≠ p) : frzBut H p a = H a := if_neg h
theorem frzBut_same {H : Hp} {p : Addr} : frzBut H p p = none := if_pos rfl
theorem frzBut_le {H : Hp} {p : Addr} : Same (frzBut H p) H := fun a o e => by
  by_cases z : a = p
  · subst z; rw [frzBut_same] at e; cases e
  · rw [frzBut_ne z] at e; exact e
theorem le_frzBut {G H : Hp} {p : Addr} (h : Same G H) (hp : G p = none) : Same G (frzBut H p) := fun a o e => by
  have z : a ≠ p := fun z => by rw [z, hp] at e; cases e
  rw [frzBut_ne z]; exact h _ _ e
theorem Rel.inner {j : Nat} {q : List (List Key × PyData)} (r : Rel K H0 F0 env σ F H) (hq : env[j]? = some (some (.od q))) : ∃ p xs, σ[j]? = some (some (.ref p)) ∧ H p = some (.dT xs) ∧ F p = none ∧ H0 p = none ∧ Rel K (frzBut H p) (frzBut H p) (innerE j env) σ (frzBut H p) H := by
  obtain ⟨fp, rf⟩ := r
  obtain ⟨v, hv, p, xs, rfl, h1, h2, h3⟩ := rf.sl j _ hq
  obtain ⟨o1, o2, o3⟩ := rf.out j p h2
  have hFm : Same F (frzBut H p) := le_frzBut rf.fz o1
  have hj : j < env.length := (List.getElem?_eq_some_iff.mp hq).1
  have hgj : env.getD j none = some (.od q) := by rw [List.getD_eq_getElem?_getD, hq]; rfl
  refine ⟨p, xs, hv, h1, o1, o2, fun i a => i = j ∧ a = p, ⟨frzBut_le, frzBut_le, by unfold innerE; simp [rf.len], fun i s hs => ?_, fun i k a x y => x.1.trans y.1.symm, fun i a x => ?_, fun a z => .inl z, Same.refl _⟩⟩
  · by_cases z : i = j
    · subst z
      unfold innerE at hs
      rw [List.getElem?_set_self (by simpa using hj), hgj] at hs
      cases hs
      exact ⟨_, hv, p, xs, rfl, h1, ⟨rfl, rfl⟩, (h3.to hFm).old⟩
    · unfold innerE at hs
      rw [List.getElem?_set_ne (Ne.symm z), List.getElem?_map] at hs
      cases w : env[i]? with
      | none => rw [w] at hs; cases hs
      | some t =>
        rw [w] at hs
        cases t with
        | none => cases hs
        | some t =>
          have hs : Sl.sh (atom t.data) t.data = s := Option.some.inj (Option.some.inj hs)
          subst hs
          obtain ⟨u, g1, g2⟩ := rf.sl i _ w
          refine ⟨u, g1, ?_⟩
          have key : Is K (frzBut H p) false (frzBut H p) u t.data := by
            have ap : ∀ a, fp i a → a ≠ p := fun a ha e => by subst e; exact z (rf.dis i j a ha h2)
            cases t with
            | sh m d => exact Is.weak g2 hFm
            | ow m d =>
              obtain ⟨c, ys, rfl, k1, k2, k3⟩ := g2
              exact .lst (.inl (.inl (by rw [frzBut_ne (ap c k2)]; exact k1))) (fun z => nomatch z) (k3.weak hFm)
            | rg d =>
              obtain ⟨G, k1, k2, k3, k4⟩ := g2
              exact Is.weak k4 (le_frzBut k2 (by
                cases y : G p with
                | none => rfl
                | some o =>
                  rcases k3 p (some_ne y) with x | x
                  · exact absurd o1 x
                  · exact absurd rfl (ap p x)))
            | rl d =>
              obtain ⟨c, ys, G, rfl, l1, l2, l3, k1, k2, k3, k4⟩ := g2
              refine .lst (.inl (.inl (by rw [frzBut_ne (ap c l2)]; exact l1))) (fun z => nomatch z) (k4.weak (le_frzBut k2 ?_))
              cases y : G p with
              | none => rfl
              | some o =>
                rcases k3 p (some_ne y) with x | x
                · exact absurd o1 x
                · exact absurd rfl (ap p x)
            | od d =>
              obtain ⟨c, ys, rfl, k1, k2, k3⟩ := g2
              exact ((k3.to hFm).old).is (.inl (by rw [frzBut_ne (ap c k2)]; exact k1))
          show Is K (frzBut H p) (atom t.data) (frzBut H p) u t.data
          cases y : atom t.data with
          | true => exact key.atom y
          | false => exact key
  · obtain ⟨rfl, rfl⟩ := x
    exact ⟨frzBut_same, frzBut_same, by rw [h1]; exact fun z => nomatch z⟩
/-- back, all but the one dict forgotten -/
theorem Rel.outer {j L : Nat} {q : List (List Key × PyData)} {p : Addr} {e : Env} {σ' : St} {F2 H' : Hp} (r : Rel K H0 F0 env σ F H) (hp0 : F p = none) (hp1 : H0 p = none) (ri : Rel K (frzBut H p) (frzBut H p) e σ' F2 H') (s2 : Same (frzBut H p) F2) (hq : e[j]? = some (some (.od q)))
    (ha : (q.all fun p => atom p.2) = true) (hl : e.length = L) : Rel K H0 F0 (onlyD L j q) σ' F H' := by
  obtain ⟨fp, rf⟩ := r
  obtain ⟨fi, ri⟩ := ri
  obtain ⟨v, hv, c, xs, rfl, h1, h2, h3⟩ := ri.sl j _ hq
  obtain ⟨o1, o2, o3⟩ := ri.out j c h2
  have hj : j < L := by rw [← hl]; exact (List.getElem?_eq_some_iff.mp hq).1
  have up : ∀ {G : Hp}, Same G H → G p = none → Same G H' := fun {G} e g => (le_frzBut e g).trans (s2.trans ri.fz)
  have r0 : RelF K H0 F0 (List.replicate L none) σ' F H' (fun _ _ => False) := ⟨up rf.fz hp0, up rf.base hp1, by rw [ri.len, hl]; simp, (fun i s hs => by
    rw [List.getElem?_replicate] at hs
    split at hs <;> cases hs), (fun _ _ _ z => z.elim), (fun _ _ z => z.elim), rf.new, rf.f0⟩
  refine ⟨_, r0.fill (g := fun a => a = c) (s := .od q) (by simpa using hj) hv ⟨c, xs, rfl, h1, rfl, h3.atoms ha⟩ (fun _ _ _ (z : False) => z.elim) fun a z => ?_⟩
  have z : a = c := z
  subst z
  refine ⟨?_, ?_, o3⟩
  · by_cases y : a = p
    · rw [y]; exact hp0
    · rw [frzBut_ne y] at o2; exact same_none rf.fz o2
  · by_cases y : a = p
    · rw [y]; exact hp1
    · rw [frzBut_ne y] at o2; exact same_none rf.base o2
end
section
variable {X : Cx} {W : WX} {e : Expr} {f : FE} {pos tpos apos cpos : Pos}
theorem zip_at {α : Type} {r : List (List Key × V)} {ds : List PyData} {i : Nat} {p : PyData × PyData} (h : ((r.map fun p => PyData.tuple (p.1.map kD)).zip ds)[i]? = some p) : ∃ k v, r[i]? = some (k, v) ∧ p.1 = .tuple (k.map kD) ∧ ds[i]? = some p.2 := by
  rw [List.getElem?_zip_eq_some] at h
  obtain ⟨h1, h2⟩ := h
  rw [List.getElem?_map] at h1
  cases q : r[i]? with
  | none => rw [q] at h1; cases h1
  | some kv =>
    rw [q] at h1
    exact ⟨kv.1, kv.2, rfl, (Option.some.inj h1).symm, h2⟩
theorem s_itemsW {elts : List Expr} {kk : Nat} {is : List Nat} {g : FG} {body : FS} {bs : List Stmt} (j : Nat) (hp : PassesOwn (model X.prog X.w) X.A X.env X.xe) (hc : X.calm = true) (he : DE X W e f) (hg : DG X (.Tuple elts kk tpos) is g) (hgn : ∀ p e e' x, g p e ≠ .ex e' x) (hb : DSs X W bs body)
    (hbase : attributeBase e "items" X.env (eval e X.env) = eval e X.env := by rfl) (hline : (apos.endLine == cpos.line) = true := by rfl) (hs : ∀ x, foldedSetIterable (.Call (.Attribute e "items" apos) [] [] cpos) X.env x = pure x := by intro _; rfl) :
    DS X W (.For (.Tuple elts kk tpos) (.Call (.Attribute e "items" apos) [] [] cpos) bs [] pos) (fItemsW j (rd f) g body) :=
  ps_le (ps_for hp hc (pi_itemsT he.v hbase hline) hg hb hs) fun D σ H ⟨H0, F0, F, env, r, q⟩ => by
    refine ⟨H0, F0, F, env, r, ?_⟩
    unfold fItemsW at q
    refine Rs.post_mono (Rs.post_bind.mp q) (fun p hp v F1 H1 r1 vv e1 e2 => ?_) fun _ _ z => z.p (Same.refl F)
    obtain ⟨env1, n1, d1⟩ := p
    dsimp only at hp vv r1
    split at hp
    · rename_i kvs hk
      split at hp
      · rename_i q0 hq0
        have isv : Is X.K H0 n1 F1 v d1 := by
          rcases vv with h | ⟨_, _, _, _, h, _⟩
          · exact h
          · have := entsL_some hk
            dsimp only at h
            rw [h] at this; cases this
        obtain ⟨a, o, kv, ds, rfl, g1, g2, rfl⟩ := is_dLk isv hk
        obtain ⟨c, xs, s1, s2, s3, s4, ri⟩ := r1.inner (odOf_some hq0)
        have hac : a ≠ c := fun z => by rw [z, s3] at g1; cases g1
        have ha1 : H1 a = some (.frz o (.dT kv)) := r1.fz _ _ g1
        refine ⟨a, o, kv, rfl, ha1, fun hkey => ?_⟩
        generalize hps : (((kv.map fun p => PyData.tuple (p.1.map kD)).zip ds).map fun kv => ((false, .tuple [kv.1, kv.2]) : Dv)) = ps at hp
        have fm : Same F1 (frzBut H1 c) := le_frzBut r1.fz s3
        have lenk : kv.length = ds.length := by have := g2.length; simpa using this
        have psl : ps.length = kv.length := by rw [← hps]; simp; omega
        have hpost : (fLoop g body ps (innerE j env1)).post (fun o => match o with
          | .nx e => ∃ q, odOf e j = some q ∧ (q.all fun p => atom p.2) = true ∧ e.length = env1.length ∧ OutP X.K H0 F0 F D (.nx (onlyD env1.length j q))
          | _ => False) (fun _ _ => False) := by
          unfold endW at hp
          split at hp
          · rename_i e3 h3
            split at hp
            · rename_i q3 hq3
              obtain ⟨hz, hp⟩ := grd_post hp
              obtain ⟨z1, z2⟩ := Bool.and_eq_true_iff.mp hz
              rw [h3]
              exact ⟨q3, hq3, z1, of_decide_eq_true z2, hp⟩
            · exact hp.elim
          · exact hp.elim
        refine ⟨fun i m σ' H' => ∃ F2 e, Rel X.K (frzBut H1 c) (frzBut H1 c) e σ' F2 H' ∧ Same (frzBut H1 c) F2 ∧ m = ps.length - i ∧ (fLoop g body (ps.drop i) e).post (fun o => match o with
          | .nx e => ∃ q, odOf e j = some q ∧ (q.all fun p => atom p.2) = true ∧ e.length = env1.length ∧ OutP X.K H0 F0 F D (.nx (onlyD env1.length j q))
          | _ => False) (fun _ _ => False),
          ⟨ps.length, frzBut H1 c, innerE j env1, ri, Same.refl _, by omega, by simpa using hpost⟩, fun i m σ' H' hw => ?_⟩
        obtain ⟨F2, e', r2, sm, em, q2⟩ := hw
        have ha2 : H' a = some (.frz o (.dT kv)) := r2.fz _ _ (sm _ _ (by rw [frzBut_ne hac]; exact ha1))
        by_cases hi : i < ps.length
        · rw [List.drop_eq_getElem_cons hi] at q2
          refine .inr ⟨⟨ha2, by omega⟩, fun σ3 H3 => ∃ F3 e3, Rel X.K (frzBut H1 c) (frzBut H1 c) e3 σ3 F3 H3 ∧ Same (frzBut H1 c) F3 ∧ (fLoop g body (ps.drop (i + 1)) e3).post (fun o => match o with
            | .nx e => ∃ q, odOf e j = some q ∧ (q.all fun p => atom p.2) = true ∧ e.length = env1.length ∧ OutP X.K H0 F0 F D (.nx (onlyD env1.length j q))
            | _ => False) (fun _ _ => False), fun σ3 H3 hn => ?_, fun x H3 hy => ?_⟩
          · obtain ⟨F3, e3, r3, s3', q3⟩ := hn
            exact ⟨ps.length - (i + 1), by omega, F3, e3, r3, s3', rfl, q3⟩
          · obtain ⟨T, k, v, qa, hkv, rfl, hT, hqa, rfl⟩ := hy
            obtain ⟨qa', hqa', hqt⟩ := hkey i k v hkv
            rw [hqa] at hqa'; cases hqa'
            have hqc : qa ≠ c := fun z => by rw [z, s2] at hqt; cases hqt
            have hF2 : F2 qa = some (.tup (k.map kV)) := sm _ _ (by rw [frzBut_ne hqc]; exact hqt)
            have ex : Ext F2 H' (upd F2 T (.tup [.ref qa, v])) (upd H' T (.tup [.ref qa, v])) := Ext.alloc r2.fz hT
            have hpi : ∃ d, ps[i] = (false, .tuple [.tuple (k.map kD), d]) ∧ ds[i]? = some d := by
              have hget : ps[i]? = (((kv.map fun p => PyData.tuple (p.1.map kD)).zip ds)[i]?).map fun kv => ((false, .tuple [kv.1, kv.2]) : Dv) := by rw [← hps, List.getElem?_map]
              rw [List.getElem?_eq_getElem hi] at hget
              cases w : ((kv.map fun p => PyData.tuple (p.1.map kD)).zip ds)[i]? with
              | none => rw [w] at hget; cases hget
              | some pr =>
                rw [w] at hget
                obtain ⟨k', v', w1, w2, w3⟩ := zip_at (α := Unit) w
                rw [hkv] at w1; cases w1
                exact ⟨pr.2, by rw [Option.some.inj hget, ← w2], w3⟩
            obtain ⟨d, hpi, hdi⟩ := hpi
            have ix : Is X.K (frzBut H1 c) (ps[i]).1 (upd F2 T (.tup [.ref qa, v])) (.ref T) (ps[i]).2 := by
              rw [hpi]
              refine .tup upd_same (.cons (.tup (ex.f _ _ hF2) (keyIsA k)) (.cons ?_ .nil))
              obtain ⟨v', hv', hdv⟩ := g2.get hdi
              rw [List.getElem?_map, hkv] at hv'
              cases hv'
              exact Is.weak hdv (fm.trans (sm.trans ex.f))
            refine ⟨frzBut H1 c, frzBut H1 c, _, e', ps[i], r2.ext ex, ix, ?_⟩
            unfold fLoop at q2
            refine Rs.post_mono (bind_noex (hgn _ _) q2) (fun e1 h1 σ4 r4 _ => ?_) fun _ _ z => z
            refine ⟨frzBut H1 c, frzBut H1 c, _, e1, r4, ?_⟩
            refine Rs.post_mono (Rs.post_bind.mp h1) (fun o ho => ?_) fun _ _ z => z.elim
            cases o with
            | nx e2 => exact fun σ5 F5 H5 r5 s5 => ⟨F5, e2, r5, (sm.trans ex.f).trans s5, ho⟩
            | ct e2 => exact fun σ5 F5 H5 r5 s5 => ⟨F5, e2, r5, (sm.trans ex.f).trans s5, ho⟩
            | bk e9 =>
              exact fun σ5 F5 H5 r5 s5 => by
                obtain ⟨q3, hq3, z1, z2, z3⟩ := ho
                exact z3 σ5 F1 H5 (r1.outer s3 s4 r5 ((sm.trans ex.f).trans s5) (odOf_some hq3) z1 z2) e2
            | rt r => exact ho.elim
        · refine .inl ⟨⟨ha2, by omega⟩, ?_⟩
          rw [List.drop_eq_nil_of_le (by omega)] at q2
          obtain ⟨q3, hq3, z1, z2, z3⟩ := q2
          exact z3 σ' F1 H' (r1.outer s3 s4 r2 sm (odOf_some hq3) z1 z2) e2
      · exact hp.elim
    · exact hp.elim
end
end Dn
namespace Dn
open PySem PySem.Spec L2
def bTuple (p : Dv) : Rs R := match p.2 with
  | .list ds => .ok (.sh (p.1 || ds.all atom) (.tuple ds))
  | .tuple ds => .ok (.sh (p.1 || ds.all atom) (.tuple ds))
  | _ => .bad
theorem bTuple_no : ∀ p e x, bTuple p ≠ .ex e x := fun p e x h => by
  unfold bTuple at h; split at h <;> cases h
def bList (p : Dv) : Rs R := match seqL p.2 with
  | some ds => .ok (.nw (p.1 || ds.all atom) ds)
  | none => .bad
theorem bList_no : ∀ p e x, bList p ≠ .ex e x := fun p e x h => by
  unfold bList at h; split at h <;> cases h
def intsOf : List PyData → Option (List Int)
  | [] => some []
  | .int i :: ds => (intsOf ds).map (i :: ·)
  | _ :: _ => none
theorem ints_is {K : PySem.W.Frag} {H0 F : Hp} {n : Bool} : ∀ {ds : List PyData} {xs : List V} {is : List Int}, IsA K H0 n F xs ds → intsOf ds = some is → xs = is.map V.int
  | [], xs, is, h, e => by cases h; cases e; rfl
  | d :: ds, xs, is, h, e => by
    unfold intsOf at e
    split at e
    · rename_i h1; cases h1
    · rename_i b ds' h1
      cases h1
      cases q : intsOf ds with
      | none => rw [q] at e; cases e
      | some cs =>
        rw [q] at e; cases e
        cases h with
        | cons h t =>
          cases h
          rw [ints_is t q]; rfl
    · cases e
theorem intsOf_map : ∀ is : List Int, intsOf (is.map PyData.int) = some is
  | [] => rfl
  | i :: is => by
    show (intsOf (is.map PyData.int)).map (i :: ·) = _
    rw [intsOf_map is]; rfl
def bSum (p : Dv) : Rs R := match p.2 with
  | .list ds => match intsOf ds with
    | some is => sc (.int is.sum)
    | none => .bad
  | _ => .bad
theorem bSum_no : ∀ p e x, bSum p ≠ .ex e x := fun p e x h => by
  unfold bSum at h
  split at h
  · split at h <;> cases h
  · cases h
section
variable {X : Cx}
theorem cr_gtuple : CallR X (.type "tuple") (rGN X.K (g1 bTuple)) := callr1 fun pins s σ H x u Q H0 F n d I rx fz bs vx hp => by
  unfold bTuple at hp
  dsimp only at hp
  split at hp
  · rename_i ds
    obtain ⟨a, xs, rfl, h1, h2⟩ := vw_list fz vx
    exact call_tuple_of pins s σ H [.ref a] [u] Q I (.cons rx .nil) ⟨a, xs, rfl, .inl ⟨h1, fun l hl => hp _ (upd F l (.tup xs)) _ (Ext.alloc fz hl) (.tup upd_same ((isA_at h2).to (same_new (same_none fz hl))))⟩⟩
  · rename_i ds
    obtain ⟨a, xs, rfl, h0, h1, h2⟩ := vw_tup fz vx
    exact call_tuple_of pins s σ H [.ref a] [u] Q I (.cons rx .nil) ⟨a, xs, rfl, .inr ⟨h1, hp _ F H (Ext.refl fz) (.tup h0 (isA_at h2))⟩⟩
  · exact hp.elim
theorem cr_glist : CallR X (.type "list") (rGN X.K (g1 bList)) := callr1 fun pins s σ H x u Q H0 F n d I rx fz bs vx hp => by
  unfold bList at hp
  dsimp only at hp
  split at hp
  · rename_i ds hs
    obtain ⟨a, xs, rfl, h1, h2⟩ := vw_seqL fz vx hs
    exact call_list_of pins s σ H [.ref a] [u] Q I (.cons rx .nil) ⟨a, xs, rfl, h1, fun l hl => hp _ F _ (Ext.allocH fz hl) ⟨l, xs, rfl, hl, same_none fz hl, upd_same, isA_at h2⟩⟩
  · exact hp.elim
theorem cr_gsum (hc : X.calm = true) : CallR X (.builtin "sum") (rGN X.K (g1 bSum)) := callr1 fun pins s σ H x u Q H0 F n d I rx fz bs vx hp => by
  unfold bSum at hp
  dsimp only at hp
  split at hp
  · rename_i ds
    split at hp
    · rename_i cs hb
      obtain ⟨a, xs, rfl, hs, hi⟩ := vw_list fz vx
      have := ints_is hi hb
      subst this
      exact cr_sum hc pins s σ H [.ref a] [u] Q I (.cons rx .nil) ⟨a, cs, rfl, hs, sc_ok hp fz (.int _)⟩
    · exact hp.elim
  · exact hp.elim
def gInD (neg : Bool) : G2 := fun p q => match q.2 with
  | .list ds => grd (SeqAt.shaped p.2 && SeqAt.shaped (.list ds)) (sc (.bool (if neg = true then !(ds.any fun z => PyData.eqv z p.2) else ds.any fun z => PyData.eqv z p.2)))
  | _ => .bad
theorem gInD_no {neg : Bool} : ∀ p q e x, gInD neg p q ≠ .ex e x := fun p q e x h => by
  unfold gInD at h
  split at h
  · exact absurd h (grd_no fun z => nomatch z)
  · cases h
theorem op_gInD (hu : X.A.units + 65 < cLine) : OpR X (compareOp .In) (rG2 X.K (gInD false)) := opr_mk fun pins s σ H x y v u Q H0 F m n d e I rx ry fz bs vx vy hp => by
  unfold gInD at hp
  dsimp only at hp
  split at hp
  · rename_i ds
    obtain ⟨hz, hp⟩ := grd_post hp
    obtain ⟨z1, z2⟩ := Bool.and_eq_true_iff.mp hz
    exact op_inD hu pins s σ H x y v u Q I rx ry ⟨d, ds, vw_dp fz vx (SeqAt.canLay_of_shaped z1), vw_dp fz vy (SeqAt.canLay_of_shaped z2), z1, z2, sc_ok hp fz (.bl _)⟩
  · exact hp.elim
theorem op_gNotInD (hu : X.A.units + 65 < cLine) : OpR X (compareOp .NotIn) (rG2 X.K (gInD true)) := opr_mk fun pins s σ H x y v u Q H0 F m n d e I rx ry fz bs vx vy hp => by
  unfold gInD at hp
  dsimp only at hp
  split at hp
  · rename_i ds
    obtain ⟨hz, hp⟩ := grd_post hp
    obtain ⟨z1, z2⟩ := Bool.and_eq_true_iff.mp hz
    exact op_notInD hu pins s σ H x y v u Q I rx ry ⟨d, ds, vw_dp fz vx (SeqAt.canLay_of_shaped z1), vw_dp fz vy (SeqAt.canLay_of_shaped z2), z1, z2, sc_ok hp fz (.bl _)⟩
  · exact hp.elim
def maxOfI : List Int → Option Int
  | [] => none
  | x :: xs => some (PySem.W.maxOf x xs)
def bMaxD : List Dv → List Dv → Rs R
  | [p], [q] => match p.2 with
    | .tuple ds => match intsOf ds with
      | some is => match maxOfI is with
        | some m => sc (.int m)
        | none => match q.2 with
          | .int i => sc (.int i)
          | _ => .bad
      | none => .bad
    | _ => .bad
  | _, _ => .bad
theorem bMaxD_no : ∀ ps qs e x, bMaxD ps qs ≠ .ex e x := fun ps qs e x h => by
  unfold bMaxD at h
  split at h
  · split at h
    · split at h
      · split at h
        · cases h
        · split at h <;> cases h
      · cases h
    · cases h
  · cases h
def rMaxD (K : PySem.W.Frag) : List V → List V → Hp → VK → Prop := fun vs zs H Q => ∃ H0 F ps qs, Same F H ∧ Same H0 H ∧ All2 (Vw K H0 F H) vs ps ∧ All2 (Vw K H0 F H) zs qs ∧ (bMaxD ps qs).post (fun res => ∀ v F' H', Ext F H F' H' → VRes K H0 H F' H' v res → Q v H') (fun _ _ => False)
theorem cr_gmaxD (hc : X.calm = true) (hu : X.A.units + 64 < cLine) : CallRK X (.builtin "max") [Str.ofString "default"] (rMaxD X.K) := fun pins s σ H xs zs us ws Q I r1 r2 ⟨H0, F, ps, qs, fz, bs, va, vb, hp⟩ => by
  unfold bMaxD at hp
  split at hp
  · rename_i p q
    cases va with
    | cons va va' =>
      cases va'
      cases vb with
      | cons vb vb' =>
        cases vb'
        cases r1 with
        | cons r1 r1' =>
          cases r1'
          cases r2 with
          | cons r2 r2' =>
            cases r2'
            rename_i x z u w
            obtain ⟨n, d⟩ := p
            dsimp only at hp va
            split at hp
            · rename_i ds
              split at hp
              · rename_i is his
                obtain ⟨a, ys, rfl, h0, h1, h2⟩ := vw_tup fz va
                have hys := ints_is h2 his
                subst hys
                cases r1
                obtain ⟨its, rv, hT, _⟩ := I.tuple h1
                have hi : PyProof.Rows.IntsAre its is := rv.ints
                refine PySem.W.max_tuple_datum_default (α := Int) (xs := is) (d := w) (I.ok.hd hc) hT (by simpa using PySem.W.HoldAll.of_ints hi) (by show X.A.units + 1 + 0 < cLine; omega) (fun e0 h' tk hk => ?_) fun y zs i v h' tk e0 hv hh hk => ?_
                · subst e0
                  dsimp only [maxOfI] at hp
                  obtain ⟨m, dq⟩ := q
                  dsimp only at hp vb
                  split at hp
                  · rename_i j
                    have := vw_int vb
                    subst this
                    exact ⟨.int j, H, I.kept hk, r2, sc_ok hp fz (.int _)⟩
                  · exact hp.elim
                · subst e0
                  dsimp only [maxOfI] at hp
                  obtain ⟨t, rfl⟩ := PySem.W.int_of_holds hh
                  exact ⟨.int _, H, I.kept hk, ⟨t, rfl⟩, sc_ok hp fz (.int _)⟩
              · exact hp.elim
            · exact hp.elim
  · exact hp.elim
end
section
variable {X : Cx} {W : WX} {e a b : Expr} {f fa fb : FE} {pos : Pos} {x : Str}
def fMaxD (fa fb : FV) : FE := fun env => (fa env).bind fun p => (fb p.1).bind fun q => (bMaxD [p.2] [q.2]).bind fun r => .ok (q.1, r)
theorem boot_max : bootBuiltins "max" = some (.builtin "max") := by decide +kernel
theorem d_maxD {p kpos : Pos} (hc : X.calm = true) (hu : X.A.units + 64 < cLine) (hg : Gl X "max") (hm : X.mg "max" = none) (ha : DE X W a fa) (hb : DE X W b fb)
    (he : backTo pos (starEach [a] X.env) = (false, eval a X.env) :: backTo pos (starEach [] X.env) := by rfl) (hpl : (backTo pos (starEach [a] X.env)).any (·.1) = false := by rfl) (hs : starEach [a] X.env = (false, eval a X.env) :: starEach [] X.env := by rfl)
    (hall : (backToKw pos (keywordEach [⟨some "default", b, kpos⟩] X.env)).all (·.1.isSome) = true := by rfl) (hnone : (backToKw pos (keywordEach [⟨some "default", b, kpos⟩] X.env)).any (·.1.isNone) = false := by rfl) (hks : (backToKw pos (keywordEach [⟨some "default", b, kpos⟩] X.env)).filterMap (·.1) = [Str.ofString "default"] := by rfl) :
    DE X W (.Call (.Name "max" p) [a] [⟨some "default", b, kpos⟩] pos) (fMaxD (st fa) (st fb)) :=
  pe_le (pe_callBK (cr_gmaxD hc hu) hg hm boot_max (dad_cons ha dad_nil hs) (dk_cons hb dk_nil) (by decide) (by decide) he hpl hall hnone hks) fun σ H Q ⟨H0, F0, F, env, r, h⟩ => by
    refine ⟨H0, F0, F, env, r, ?_⟩
    unfold fMaxD at h
    unfold fCons
    refine Rs.post_bind.mpr (Rs.post_mono (Rs.post_bind.mp h) (fun p hp => ?_) fun _ _ x => x)
    intro vs F1 H1 r1 v1 e1 e2
    refine ⟨H0, F0, F1, p.1, r1, ?_⟩
    refine Rs.post_bind.mpr (Rs.post_mono (Rs.post_bind.mp hp) (fun q hq => ?_) fun _ _ x => x.to e2 e1)
    intro zs F2 H2 r2 v2 e3 e4
    refine ⟨H0, F2, [p.2], [q.2], r2.fz, r2.base, ?_, ?_, ?_⟩
    · exact v1.mono fun _ _ z => .inl (Is.to z e4)
    · exact v2.mono fun _ _ z => .inl z
    · have hq := Rs.post_bind.mp hq
      cases z : bMaxD [p.2] [q.2] with
      | bad => rw [z] at hq; exact hq.elim
      | ex e x => exact absurd z (bMaxD_no _ _ _ _)
      | ok res =>
        rw [z] at hq
        exact fun w F' H' ex hv => hq w F' H' (hv.rel r2 ex) ((e1.trans e3).trans ex.h) ((e2.trans e4).trans ex.f)
def fGetL (fo fe : FV) : FE := fun env => (fo env).bind fun p => match entsL p.2.2 with
  | some kvs => (fe p.1).bind fun q => match tkey q.2.2 with
    | some k => .ok (q.1, gGet kvs k)
    | none => .bad
  | none => .bad
theorem dr_of {K : PySem.W.Frag} {H0 F : Hp} {n : Bool} : ∀ {r : List (List Key × V)} {ds : List PyData}, IsA K H0 n F (r.map (·.2)) ds → ∃ q : List (List Key × PyData), Dr K H0 F r q ∧ (r.map fun p => PyData.tuple (p.1.map kD)).zip ds = q.map fun p => (encT p.1, p.2)
  | [], ds, h => ⟨[], .nil, by cases h; rfl⟩
  | p :: r, ds, h => by
    cases h with
    | @cons _ _ d ds h t =>
      obtain ⟨q, h1, h2⟩ := dr_of t
      obtain ⟨k, v⟩ := p
      exact ⟨(k, d) :: q, .cons (h.weak (Same.refl F)) h1, by simp only [List.map_cons, List.zip_cons_cons, h2]; rfl⟩
theorem d_getL {apos cpos : Pos} (hu : X.A.units + 64 < cLine) (ha : DE X W a fa) (hb : DE X W b fb) (m : M1 X a "get" apos b cpos) : DE X W (.Call (.Attribute a "get" apos) [b] [] cpos) (fGetL (st fa) (st fb)) :=
  pe_le (pe_dget1 (by omega) ha.d hb.d m) fun σ H Q ⟨H0, F0, F, env, r, h⟩ => by
    refine ⟨H0, F0, F, env, r, ?_⟩
    unfold fGetL at h
    refine Rs.post_mono (Rs.post_bind.mp h) (fun p hp v F1 H1 r1 v1 e1 e2 => ?_) fun _ _ x => x
    obtain ⟨q1, n1, d1⟩ := p
    dsimp only at hp v1 r1
    split at hp
    · rename_i kvs hk
      obtain ⟨a, o, r0, ds, rfl, h2, h3, rfl⟩ := is_dLk v1 hk
      obtain ⟨q, h4, h5⟩ := dr_of h3
      rw [h5] at hp
      have h2' : Rd F1 a (.dT r0) := .inr ⟨o, h2⟩
      refine ⟨a, rfl, .inr ⟨r0, same_rd r1.fz h2'⟩, H0, F0, F1, q1, r1, ?_⟩
      refine Rs.post_mono (Rs.post_bind.mp hp) (fun p2 hp2 y F2 H2 r2 i2 e3 e4 => ?_) fun _ _ x => x.to e2 e1
      obtain ⟨q2, n2, d2⟩ := p2
      dsimp only at hp2 i2 r2
      split at hp2
      · rename_i k hk2
        obtain ⟨b, rfl, hb⟩ := tkey_is i2 hk2
        have h4 : Dr X.K H0 F2 r0 q := h4.to e4
        have h6 : Rd H2 a (.dT r0) := same_rd r2.fz (same_rd e4 h2')
        unfold gGet at hp2
        rw [findT_enc] at hp2
        rcases h4.val (k := k) with ⟨v, d, z1, z2, z3⟩ | ⟨z1, z2⟩
        · rw [z2] at hp2
          refine ⟨some v, .inr ⟨r0, k, b, h6, rfl, r2.fz _ _ hb, z1.symm⟩, ?_⟩
          refine hp2 v F2 H2 ⟨r2, ?_⟩ (e1.trans e3) (e2.trans e4)
          have := z3.orAtom (Same.refl F2)
          rwa [Bool.false_or] at this
        · rw [z2] at hp2
          exact ⟨none, .inr ⟨r0, k, b, h6, rfl, r2.fz _ _ hb, z1.symm⟩, hp2 .non F2 H2 ⟨r2, .non⟩ (e1.trans e3) (e2.trans e4)⟩
      · exact hp2.elim
    · exact hp.elim
section
variable {k : Nat} {fA : Addr} {fd : FuncData} {ps : List Str} {S : SF} {p : Pos} {es : List Expr} {ga : FA} {dvs : List V} {dds : List PyData}
def fCallD (S : SF) (dds : List PyData) (f : FA) : FE := fun env => (f env).bind fun p => callR p.1 (S ((p.2.map fun d => d.2) ++ dds))
theorem d_callD (hdv : ∀ K H0 F, IsA K H0 false F dvs dds) (G : FnG X.prog X.w X.K X.mg X.base k fA fd ps S) (hr : Room k X.A) (hgd : X.A.guards = some []) (tk : Takes X W) (hg : Gl X x) (hm : X.mg x = some (.ref fA)) (hk : PySem.W.keepIn X.K (.ref fA) = true) (hb : ∃ ds, Vals dvs ds ∧ Binds X.K fd ps ds)
    (ha : DAD X W (e :: es) ga) (hdb : (x == ("__debug__" : Str)) = false := by decide) (he : starEach (e :: es) X.env = (false, eval e X.env) :: starEach es X.env := by rfl) (hpl : (backTo pos (starEach es X.env)).any (·.1) = false := by rfl) :
    DE X W (.Call (.Name x p) (e :: es) [] pos) (fCallD S dds ga) := by
  obtain ⟨dws, rd, hb⟩ := hb
  refine ⟨fun pins s σ H Q I h => wpAny_Call_Name_kw (ld_glob I hg hm ?_ hdb)⟩
  have h1 : tAD X.K X.mg W ga σ H fun vs H1 => spD X.K X.mg ps.length S (vs ++ dvs) H1 Q fun cls d H3 => W cls d σ H3 := by
    obtain ⟨H0, F0, F, env, r, h⟩ := h
    refine ⟨H0, F0, F, env, r, ?_⟩
    unfold fCallD at h
    refine Rs.post_mono (Rs.post_bind.mp h) (fun p hp vs F1 H1 r1 ha e1 e2 => ?_) fun _ _ z => z
    have hS : S ((p.2.map fun d => d.2) ++ dds) ≠ .bad := fun z => by unfold callR at hp; rw [z] at hp; exact hp.elim
    have hl : ((p.2.map fun d => d.2) ++ dds).length = ps.length := by
      by_cases y : ((p.2.map fun d => d.2) ++ dds).length = ps.length
      · exact y
      · exact absurd (G.len _ y) hS
    have hdl : dvs.length = dds.length := (hdv X.K H0 F1).length
    refine ⟨F1, (p.2.map fun d => d.2) ++ dds, by rw [← hl]; simp [ha.length, hdl], r1.fz, (isA_weak ha).append ((hdv X.K H1 F1)), ?_⟩
    unfold callR at hp
    cases z : S ((p.2.map fun d => d.2) ++ dds) with
    | bad => exact absurd z hS
    | ok res =>
      rw [z] at hp
      cases res with
      | sh n d => exact fun v F' H' ex hv => hp v F' H' ((hv.base r1.base).rel r1 ex) (e1.trans ex.h) (e2.trans ex.f)
      | nw n d => exact fun v F' H' ex hv => hp v F' H' ((hv.base r1.base).rel r1 ex) (e1.trans ex.h) (e2.trans ex.f)
      | own i => exact hp.elim
    | ex e x =>
      rw [z] at hp
      exact fun cls dO H' e3 hx => hp cls dO F1 H' (r1.heap e3) (e1.trans e3) e2 hx
  refine PySem.W.callWith_K (h₀ := X.base) I.ok.mod.kin hk (thn (ha.run pos pins s σ H _ I h1) fun us s1 ⟨vs, H1, I1, rv, q⟩ => ?_) he hpl
  have hl : (vs ++ dvs).length = ps.length := let ⟨_, _, z, _⟩ := q; z
  have rr := rv.append rd
  have bd := hb s1 us I1.kIn (by rw [← hl]; exact rr.length.symm)
  exact ⟨I1.kIn, run_g G hr hgd tk bd I1 rr q⟩
end
end
theorem fn_bad {P : Program} {w : World} {K : PySem.W.Frag} {mg : Str → Option Value} {base : Heap} {f : Addr} {fd : FuncData} {ps : List Str} (k : Nat) : FnG P w K mg base k f fd ps (fun _ => .bad) :=
  ⟨fun A outer s H args us vs Q E hr hg e0 hb r ⟨F, qs, _, _, _, h⟩ => h.elim, fun _ _ => rfl⟩
end Dn
namespace L2
open PySem
theorem Room.units65 {k : Nat} {A : Around} (r : Room k A) : A.units + 65 < cLine := by have := r.un; omega
end L2
namespace Dn
open PySem PySem.Spec L2
def fLcO (own vs1 : List Nat) (g : FG) (t : FT) (it1 : FA) (g1 : FG) (t1 : FT) (el : FV) : List Dv → Env → List Dv → Rs (Env × List Dv)
  | [], e, acc => .ok (e, acc)
  | x :: xs, e, acc => (noex (g x e)).bind fun e1 => (noex (t e1)).bind fun b => if b = true then (noex (it1 e1)).bind fun p => (fLcL vs1 g1 t1 el p.2 (wipeE p.1 vs1) acc).bind fun q => fLcO own vs1 g t it1 g1 t1 el xs (wipeE q.1 own) q.2 else fLcO own vs1 g t it1 g1 t1 el xs (wipeE e1 own) acc
def fLc2 (own vs1 : List Nat) (it : FA) (g : FG) (t : FT) (it1 : FA) (g1 : FG) (t1 : FT) (el : FV) : FE := fun env => (it env).bind fun p => grd (okOwn p.1 own) ((fLcO own vs1 g t it1 g1 t1 el p.2 (wipeE p.1 own) []).bind fun q => .ok (backE p.1 q.1 own, .nw (flags q.2) (datas q.2)))
theorem wipe_sub {σ : St} {vs1 own : List Nat} (h : ∀ i ∈ vs1, i ∈ own) : wipe (wipe σ vs1) own = wipe σ own := by
  apply List.ext_getElem?
  intro i
  by_cases hi : i ∈ own
  · rw [wipe_in hi, wipe_in hi, wipe_length]
  · rw [wipe_out hi, wipe_out hi, wipe_out fun z => hi (h i z)]
theorem lc2_le {K : PySem.W.Frag} {mg : Str → Option Value} {W : WX} {own vs1 is is1 : List Nat} {fi fi1 : FA} {g g1 : FG} {t t1 : FT} {el : FV} {σ : St} {H : Hp} {Q : VK} (hv : ∀ i ∈ vs1, i ∈ own) (his : ∀ i ∈ is, i ∈ own) (his1 : ∀ i ∈ is1, i ∈ vs1) (h : tE K mg W (fLc2 own vs1 fi g t fi1 g1 t1 el) σ H Q) :
    tLc2 (tI K mg W fi) (tG K is g) (tT K mg W0 t) (tI K mg W0 fi1) (tG K is1 g1) (tT K mg W0 t1) (tD K mg W0 el) own vs1 σ H Q := by
  obtain ⟨H0, F0, F, env, r, h⟩ := h
  refine ⟨H0, F0, F, env, r, ?_⟩
  unfold fLc2 at h
  refine Rs.post_mono (Rs.post_bind.mp h) (fun p hp J F1 H1 r1 good e1 e2 => ?_) fun _ _ x => x
  obtain ⟨env1, ps⟩ := p
  dsimp only at hp r1 good
  obtain ⟨ok, hp⟩ := grd_post hp
  have hp := Rs.post_bind.mp hp
  intro D hD
  have fD1 : F1 D = none := same_none r1.fz hD
  have f0 : F0 D = none := by obtain ⟨fp, rf⟩ := r1; exact same_none rf.f0 fD1
  have b0 : H0 D = none := same_none r1.base hD
  refine ⟨fun i m H' => ∃ F2 e acc xs, Rel K (upd H0 D (.lst xs)) F0 e (wipe σ own) F2 H' ∧ Same F1 F2 ∧ Same H1 H' ∧ H' D = some (.lst xs) ∧ IsA K H0 (flags acc) F2 xs (datas acc) ∧ m = ps.length - i ∧
      (fLcO own vs1 g t fi1 g1 t1 el (ps.drop i) e acc).post (fun q => ∀ v F' H', RelR K H0 F0 (backE env1 q.1 own) σ F' H' v (.nw (flags q.2) (datas q.2)) → Same H H' → Same F F' → Q v H') (ExP K mg W H0 F0 F H σ),
    ⟨ps.length, F1, wipeE env1 own, [], [], rel_wipe (r1.baseNew hD) rfl, Same.refl F1, same_new hD, upd_same, .nil, by omega, by rw [List.drop_zero]; exact hp⟩, fun i m H' hw => ?_⟩
  obtain ⟨F2, e, acc, xs, r2, s2, k2, hx, ia, em, q2⟩ := hw
  have fD2 := base_f r2 f0
  obtain ⟨ga, gb⟩ := good i F2 H' s2 r2.fz
  by_cases hi : i < ps.length
  · rw [List.drop_eq_getElem_cons hi] at q2
    obtain ⟨go, yld⟩ := ga ps[i] (List.getElem?_eq_getElem hi)
    refine .inr ⟨go, fun H3 => ∃ F3 e3 acc3 xs3, Rel K (upd H0 D (.lst xs3)) F0 e3 (wipe σ own) F3 H3 ∧ Same F1 F3 ∧ Same H1 H3 ∧ H3 D = some (.lst xs3) ∧ IsA K H0 (flags acc3) F3 xs3 (datas acc3) ∧
      (fLcO own vs1 g t fi1 g1 t1 el (ps.drop (i + 1)) e3 acc3).post (fun q => ∀ v F' H', RelR K H0 F0 (backE env1 q.1 own) σ F' H' v (.nw (flags q.2) (datas q.2)) → Same H H' → Same F F' → Q v H') (ExP K mg W H0 F0 F H σ), fun H3 hn => ?_, fun x H3 hy => ?_⟩
    · obtain ⟨F3, e3, acc3, xs3, z1, z2, z3, z4, z5, z6⟩ := hn
      exact ⟨ps.length - (i + 1), by omega, F3, e3, acc3, xs3, z1, z2, z3, z4, z5, rfl, z6⟩
    · obtain ⟨F3, ex, ix⟩ := yld x H3 hy
      have fD3 : F3 D = none := by
        cases z : F3 D with
        | none => rfl
        | some o =>
          rcases ex.new D (by rw [z]; exact fun z => nomatch z) with y | y
          · exact absurd fD2 y
          · rw [hx] at y; cases y
      refine ⟨upd H0 D (.lst xs), F0, F3, e, ps[i], r2.ext ex, Is.le (show Le H0 F3 ps[i].1 (upd H0 D (.lst xs)) F3 ps[i].1 from ⟨Same.refl F3, id, fun _ a fa ha => by rw [upd_ne (fun z => fa (by rw [z]; exact fD3))]; exact ha⟩) ix, ?_⟩
      unfold fLcO at q2
      refine Rs.post_mono (noex_post (E' := fun _ _ => False) q2) (fun e4 h4 σ4 r4 b4 => ⟨wipe_but b4 his, ?_⟩) fun _ _ z => z
      refine ⟨upd H0 D (.lst xs), F0, F3, e4, r4, ?_⟩
      refine Rs.post_mono (noex_post (E' := fun _ _ => False) h4) (fun b h5 H5 r5 e5 => ?_) fun _ _ z => z.elim
      cases b with
      | true =>
        rw [if_pos rfl] at h5 ⊢
        refine ⟨upd H0 D (.lst xs), F0, F3, e4, r5, ?_⟩
        refine Rs.post_mono (noex_post (E' := fun _ _ => False) h5) (fun p6 h6 J1 F6 H6 r6 good1 e6 s6 => ?_) fun _ _ z => z.elim
        obtain ⟨env6, ps1⟩ := p6
        dsimp only at h6 r6 good1
        have hD6 : H6 D = some (.lst xs) := e6 D _ (e5 D _ (ex.h D _ hx))
        have s16 : Same F1 F6 := (s2.trans ex.f).trans s6
        have k16 : Same H1 H6 := fun a u hu => e6 a u (e5 a u (ex.h a u (k2 a u hu)))
        have h6 := Rs.post_bind.mp h6
        refine ⟨fun j k Hj => ∃ F8 e8 acc8 xs8, Rel K (upd H0 D (.lst xs8)) F0 e8 (wipe σ4 vs1) F8 Hj ∧ Same F6 F8 ∧ Same H1 Hj ∧ Hj D = some (.lst xs8) ∧ IsA K H0 (flags acc8) F8 xs8 (datas acc8) ∧ k = ps1.length - j ∧
          (fLcL vs1 g1 t1 el (ps1.drop j) e8 acc8).post (fun q => (fLcO own vs1 g t fi1 g1 t1 el (ps.drop (i + 1)) (wipeE q.1 own) q.2).post (fun q => ∀ v F' H', RelR K H0 F0 (backE env1 q.1 own) σ F' H' v (.nw (flags q.2) (datas q.2)) → Same H H' → Same F F' → Q v H') (ExP K mg W H0 F0 F H σ)) (ExP K mg W H0 F0 F H σ),
          ⟨ps1.length, F6, wipeE env6 vs1, acc, xs, rel_wipe r6 rfl, Same.refl F6, k16, hD6, (ia.to ex.f).to s6, by omega, by rw [List.drop_zero]; exact h6⟩, fun j k Hj hw => ?_⟩
        obtain ⟨F8, e8, acc8, xs8, r8, s8, k8, hx8, ia8, em8, q8⟩ := hw
        have fD8 := base_f r8 f0
        obtain ⟨gc, gd⟩ := good1 j F8 Hj s8 r8.fz
        by_cases hj : j < ps1.length
        · rw [List.drop_eq_getElem_cons hj] at q8
          obtain ⟨go1, yld1⟩ := gc ps1[j] (List.getElem?_eq_getElem hj)
          refine .inr ⟨go1, fun H9 => ∃ F9 e9 acc9 xs9, Rel K (upd H0 D (.lst xs9)) F0 e9 (wipe σ4 vs1) F9 H9 ∧ Same F6 F9 ∧ Same H1 H9 ∧ H9 D = some (.lst xs9) ∧ IsA K H0 (flags acc9) F9 xs9 (datas acc9) ∧
            (fLcL vs1 g1 t1 el (ps1.drop (j + 1)) e9 acc9).post (fun q => (fLcO own vs1 g t fi1 g1 t1 el (ps.drop (i + 1)) (wipeE q.1 own) q.2).post (fun q => ∀ v F' H', RelR K H0 F0 (backE env1 q.1 own) σ F' H' v (.nw (flags q.2) (datas q.2)) → Same H H' → Same F F' → Q v H') (ExP K mg W H0 F0 F H σ)) (ExP K mg W H0 F0 F H σ),
            fun H9 hn => ?_, fun x9 H9 hy9 => ?_⟩
          · obtain ⟨F9, e9, acc9, xs9, z1, z2, z3, z4, z5, z6⟩ := hn
            exact ⟨ps1.length - (j + 1), by omega, F9, e9, acc9, xs9, z1, z2, z3, z4, z5, rfl, z6⟩
          · obtain ⟨F9, ex9, ix9⟩ := yld1 x9 H9 hy9
            have fD9 : F9 D = none := by
              cases z : F9 D with
              | none => rfl
              | some o =>
                rcases ex9.new D (by rw [z]; exact fun z => nomatch z) with y | y
                · exact absurd fD8 y
                · rw [hx8] at y; cases y
            have ix9' : Is K (upd H0 D (.lst xs8)) ps1[j].1 F9 x9 ps1[j].2 := by
              refine Is.le (show Le (upd H0 D (.lst xs)) F9 ps1[j].1 (upd H0 D (.lst xs8)) F9 ps1[j].1 from ⟨Same.refl F9, id, fun _ a fa ha => ?_⟩) ix9
              have := (upd_none.mp ha)
              rw [upd_ne this.1]; exact this.2
            refine ⟨upd H0 D (.lst xs8), F0, F9, e8, ps1[j], r8.ext ex9, ix9', ?_⟩
            unfold fLcL at q8
            refine Rs.post_mono (noex_post (E' := fun _ _ => False) q8) (fun e10 h10 σ10 r10 b10 => ⟨wipe_but b10 his1, ?_⟩) fun _ _ z => z
            refine ⟨upd H0 D (.lst xs8), F0, F9, e10, r10, ?_⟩
            refine Rs.post_mono (noex_post (E' := fun _ _ => False) h10) (fun b h11 H11 r11 e11 => ?_) fun _ _ z => z.elim
            cases b with
            | true =>
              rw [if_pos rfl] at h11 ⊢
              refine ⟨upd H0 D (.lst xs8), F0, F9, e10, r11, ?_⟩
              refine Rs.post_mono (noex_post (E' := fun _ _ => False) h11) (fun p12 h12 y F12 H12 r12 i12 e12 s12 => ?_) fun _ _ z => z.elim
              obtain ⟨hz, h12⟩ := grd_post h12
              have hz := of_decide_eq_true hz
              have hxs : xs8.length < 1000000 := by rw [ia8.length]; simpa [datas] using hz
              have hD12 : H12 D = some (.lst xs8) := e12 D _ (e11 D _ (ex9.h D _ hx8))
              refine ⟨xs8, hD12, million hxs, F12, wipeE p12.1 vs1, acc8 ++ [p12.2], xs8 ++ [y], rel_wipe (r12.baseSet f0) (wipe_but b10 his1), (s8.trans ex9.f).trans s12, fun a u hu => ?_, upd_same, ?_, h12⟩
              · have hne : a ≠ D := fun z => by rw [z, hD] at hu; cases hu
                rw [upd_ne hne]
                exact e12 a u (e11 a u (ex9.h a u (k8 a u hu)))
              · rw [flags_app, datas_app]
                refine IsA.append ((ia8.to (ex9.f.trans s12)).le1) (.cons ?_ .nil)
                exact Is.le2 (Is.le (show Le (upd H0 D (.lst xs8)) F12 p12.2.1 H0 F12 p12.2.1 from ⟨Same.refl F12, id, fun _ a _ ha => (upd_none.mp ha).2⟩) i12)
            | false =>
              rw [if_neg (by decide)] at h11 ⊢
              exact ⟨F9, wipeE e10 vs1, acc8, xs8, rel_wipe r11 (wipe_but b10 his1), s8.trans ex9.f, fun a u hu => e11 a u (ex9.h a u (k8 a u hu)), e11 D _ (ex9.h D _ hx8), ia8.to ex9.f, h11⟩
        · refine .inl ⟨gd (by omega), ?_⟩
          rw [List.drop_eq_nil_of_le (by omega)] at q8
          exact ⟨F8, wipeE e8 own, acc8, xs8, rel_wipe r8 ((wipe_sub hv).trans (wipe_but b4 his)), s16.trans s8, k8, hx8, ia8, q8⟩
      | false =>
        rw [if_neg (by decide)] at h5 ⊢
        exact ⟨F3, wipeE e4 own, acc, xs, rel_wipe r5 (wipe_but b4 his), s2.trans ex.f, fun a u hu => e5 a u (ex.h a u (k2 a u hu)), e5 D _ (ex.h D _ hx), ia.to ex.f, h5⟩
  · refine .inl ⟨gb (by omega), ?_⟩
    rw [List.drop_eq_nil_of_le (by omega)] at q2
    exact q2 (.ref D) F2 H' (rel_back r1 ok s2 (r2.baseOff f0 b0 hx ia)) (e1.trans k2) (e2.trans s2)
section
variable {X : Cx} {W : WX} {elt tg iter tg1 iter1 : Expr} {ifs ifs1 : List Expr} {scope : Scope} {own : List (Str × Nat)} {vs1 : List Nat} {pos : Pos} {is is1 : List Nat} {fi fi1 : FA} {g g1 : FG} {t t1 : FT} {fe : FE}
theorem d_lc2 (hc : X.calm = true) (hN : X.N.Nodup) (hi : DI X W tg iter fi) (ok : BlkOk X.N X.env.scope scope own) (hv : ∀ i ∈ vs1, i ∈ own.map (·.2)) (his : ∀ i ∈ is, i ∈ own.map (·.2)) (his1 : ∀ i ∈ is1, i ∈ vs1)
    (hg : ∀ (s : Shared) (H : Hp) (C : Addr) (cl : List (Str × Addr)) (fp : List Addr), DG (X.blk s H scope (compEnvC scope cl C X.env) fp) tg is g)
    (ht : ∀ (s : Shared) (H : Hp) (C : Addr) (cl : List (Str × Addr)) (fp : List Addr), PTs (X.blk s H scope (compEnvC scope cl C X.env) fp) ifs (tT X.K X.mg W0 t))
    (hi1 : ∀ (s : Shared) (H : Hp) (C : Addr) (cl : List (Str × Addr)) (fp : List Addr), DI (X.blk s H scope (compEnvC scope cl C X.env) fp) W0 tg1 iter1 fi1)
    (hg1 : ∀ (s : Shared) (H : Hp) (C : Addr) (cl : List (Str × Addr)) (fp : List Addr), DG (X.blk s H scope (compEnvC scope cl C X.env) fp) tg1 is1 g1)
    (ht1 : ∀ (s : Shared) (H : Hp) (C : Addr) (cl : List (Str × Addr)) (fp : List Addr), PTs (X.blk s H scope (compEnvC scope cl C X.env) fp) ifs1 (tT X.K X.mg W0 t1))
    (he : ∀ (s : Shared) (H : Hp) (C : Addr) (cl : List (Str × Addr)) (fp : List Addr), DE (X.blk s H scope (compEnvC scope cl C X.env) fp) W0 elt fe) (hs : ∀ x, foldedSetIterable iter X.env x = pure x := by intro _; rfl) (hs1 : ∀ env x, foldedSetIterable iter1 env x = pure x := by intro _ _; rfl) :
    DE X W (.ListComp elt [⟨tg, iter, ifs, 0⟩, ⟨tg1, iter1, ifs1, 0⟩] scope pos) (fLc2 (own.map (·.2)) vs1 fi g t fi1 g1 t1 (st fe)) :=
  pe_le (pe_lc2 hc hN hi ok hv hg ht hi1 hg1 ht1 (fun s H C cl fp => (he s H C cl fp).d) hs hs1) fun σ H Q q => lc2_le hv his his1 q
theorem s_setLc2 (i : Nat) {y : Str} {py spos : Pos} (hc : X.calm = true) (hN : X.N.Nodup) (hi' : X.N[i]? = some y) (hy : List.lookup y X.env.scope.names = some .local)
    (hsw : swapsWith (.ListComp elt [⟨tg, iter, ifs, 0⟩, ⟨tg1, iter1, ifs1, 0⟩] scope pos) (some (.Name y py)) spos.line X.env = pure true) (hi : DI X W tg iter fi) (ok : BlkOk X.N X.env.scope scope own) (hv : ∀ i ∈ vs1, i ∈ own.map (·.2)) (his : ∀ i ∈ is, i ∈ own.map (·.2)) (his1 : ∀ i ∈ is1, i ∈ vs1)
    (hg : ∀ (s : Shared) (H : Hp) (C : Addr) (cl : List (Str × Addr)) (fp : List Addr), DG (X.blk s H scope (compEnvC scope cl C X.env) fp) tg is g)
    (ht : ∀ (s : Shared) (H : Hp) (C : Addr) (cl : List (Str × Addr)) (fp : List Addr), PTs (X.blk s H scope (compEnvC scope cl C X.env) fp) ifs (tT X.K X.mg W0 t))
    (hi1 : ∀ (s : Shared) (H : Hp) (C : Addr) (cl : List (Str × Addr)) (fp : List Addr), DI (X.blk s H scope (compEnvC scope cl C X.env) fp) W0 tg1 iter1 fi1)
    (hg1 : ∀ (s : Shared) (H : Hp) (C : Addr) (cl : List (Str × Addr)) (fp : List Addr), DG (X.blk s H scope (compEnvC scope cl C X.env) fp) tg1 is1 g1)
    (ht1 : ∀ (s : Shared) (H : Hp) (C : Addr) (cl : List (Str × Addr)) (fp : List Addr), PTs (X.blk s H scope (compEnvC scope cl C X.env) fp) ifs1 (tT X.K X.mg W0 t1))
    (he : ∀ (s : Shared) (H : Hp) (C : Addr) (cl : List (Str × Addr)) (fp : List Addr), DE (X.blk s H scope (compEnvC scope cl C X.env) fp) W0 elt fe) (hs : ∀ x, foldedSetIterable iter X.env x = pure x := by intro _; rfl) (hs1 : ∀ env x, foldedSetIterable iter1 env x = pure x := by intro _ _; rfl) :
    DS X W (.Assign [.Name y py] (.ListComp elt [⟨tg, iter, ifs, 0⟩, ⟨tg1, iter1, ifs1, 0⟩] scope pos) spos) (fSet i (fLc2 (own.map (·.2)) vs1 fi g t fi1 g1 t1 (st fe))) :=
  ps_le (ps_setLc2 hc hN hi' hy hsw hi ok hv hg ht hi1 hg1 ht1 (fun s H C cl fp => (he s H C cl fp).d) hs hs1) fun D σ H q => lc2_le hv his his1 (via (te := tC .non) q fun H0 F0 F env p r hp v F' H' hr _ e2 => by
    obtain ⟨e1, q1, q2⟩ := put_post hp
    obtain ⟨F2, e3, r2⟩ := put_ok hr q1
    exact q2 _ F2 H' r2 (e2.trans e3))
end
def gNeg : G1 := fun p => match p.2 with
  | .int i => sc (.int (-i))
  | _ => .bad
theorem gNeg_no : ∀ p e x, gNeg p ≠ .ex e x := fun p e x h => by
  unfold gNeg at h; split at h <;> cases h
theorem un_gNeg {X : Cx} : UnR X (unaryOp .USub) (rG1 X.K gNeg) := fun pins s σ H x v Q I rx ⟨H0, F, p, fz, bs, vx, hp⟩ => by
  obtain ⟨n, d⟩ := p
  unfold gNeg at hp
  dsimp only at hp
  split at hp
  · have := vw_int vx
    subst this
    exact un_neg pins s σ H _ v Q I rx ⟨_, rfl, sc_ok hp fz (.int _)⟩
  · exact hp.elim
end Dn
namespace Dn
open PySem PySem.Spec L2
/-- a tuple of numbers -/
abbrev cTp (o : List Int) : PyData := .tuple (o.map .int)
abbrev kI (o : List Int) : List Key := o.map .inl
abbrev cAcc (acc : List (List Int × Int)) : List (List Key × PyData) := acc.map fun p => (kI p.1, PyData.int p.2)
theorem kI_inj {a b : List Int} (h : kI a = kI b) : a = b := by
  induction a generalizing b with
  | nil => cases b with
    | nil => rfl
    | cons => cases h
  | cons x a ih => cases b with
    | nil => cases h
    | cons y b =>
      obtain ⟨h1, h2⟩ := List.cons.inj h
      rw [Sum.inl.inj h1, ih h2]
theorem kI_iff {a b : List Int} : (kI a = kI b) ↔ a = b := ⟨kI_inj, fun h => by rw [h]⟩
theorem encT_kI (o : List Int) : encT (kI o) = cTp o := by
  unfold encT; rw [List.map_map]; rfl
theorem tkey_kI (o : List Int) : tkey (cTp o) = some (kI o) := by rw [← encT_kI, tkey_enc]
theorem cAcc_cons (p : List Int × Int) (acc : List (List Int × Int)) : cAcc (p :: acc) = (kI p.1, PyData.int p.2) :: cAcc acc := rfl
theorem valG_acc (o : List Int) : ∀ acc : List (List Int × Int), valG (cAcc acc) (kI o) = (valG acc o).map .int
  | [] => rfl
  | p :: acc => by
    have ih := valG_acc o acc
    unfold valG at ih ⊢
    by_cases z : p.1 = o
    · rw [cAcc_cons, List.find?_cons_of_pos (by simpa using kI_iff.mpr z), List.find?_cons_of_pos (by simpa using z)]; rfl
    · rw [cAcc_cons, List.find?_cons_of_neg (by simpa using fun y => z (kI_inj y)), List.find?_cons_of_neg (by simpa using z)]; exact ih
theorem any_acc (o : List Int) : ∀ acc : List (List Int × Int), ((cAcc acc).any fun kv => decide (kv.1 = kI o)) = acc.any fun kv => decide (kv.1 = o)
  | [] => rfl
  | p :: acc => by
    rw [cAcc_cons, List.any_cons, List.any_cons, any_acc o acc, decide_eq_decide.mpr kI_iff]
theorem putG_acc (o : List Int) (d : Int) (acc : List (List Int × Int)) : putG (cAcc acc) (kI o) (.int d) = cAcc (putG acc o d) := by
  unfold putG
  rw [any_acc]
  split
  · unfold cAcc
    rw [List.map_map, List.map_map]
    refine List.map_congr_left fun p _ => ?_
    show (if kI p.1 = kI o then (kI p.1, PyData.int d) else (kI p.1, PyData.int p.2)) = (fun q : List Int × Int => (kI q.1, PyData.int q.2)) (if p.1 = o then (p.1, d) else p)
    by_cases z : p.1 = o
    · rw [if_pos (by rw [z]), if_pos z]
    · rw [if_neg (fun y => z (kI_inj y)), if_neg z]
  · unfold cAcc; rw [List.map_append]; rfl
def sortI (o : List Int) : List Int := o.mergeSort (fun a b => decide (a ≤ b))
theorem srt_ints (o : List Int) : srt (o.map .int) = (sortI o).map .int := by
  unfold srt sortI
  refine (List.map_mergeSort fun a _ b _ => ?_).symm
  have := congrFun (congrFun (PySem.W.dataLe_int (fun x : Int => x)) a) b
  exact this.symm
theorem srt_rows {xs : List (List Int)} (h : xs.Pairwise (· ≤ ·)) : srt (xs.map cTp) = xs.map cTp := by
  unfold srt
  refine List.mergeSort_of_pairwise (List.pairwise_map.mpr (h.imp fun {a b} hab => ?_))
  show (!PySem.W.dataLt (cTp b) (cTp a)) = true
  rw [PySem.W.dataLt_tuple]
  show (!PySem.W.rowLt (b.map .int) (a.map .int)) = true
  rw [PySem.W.dataLt_ints]
  have : ¬ b < a := fun r => List.not_lt.mpr hab r
  simp [this]
theorem lay0_ints : ∀ o : List Int, PyData.canLayAll0 (o.map .int) = true
  | [] => rfl
  | x :: o => by
    rw [List.map_cons, PyData.canLayAll0, lay0_ints o]; rfl
theorem sortOk_ints {o : List Int} (h : o.length ≤ 1000000) : sortOk (o.map .int) = true := by
  unfold sortOk sortAl sortKd
  have h1 : ((o.map PyData.int).all fun d => (o.map PyData.int).all fun e => PySem.W.alike d e) = true := by
    simp [List.all_map, PySem.W.alike]
  have h2 : ((o.map PyData.int).all fun d => decide (d.depth ≤ 60)) = true := by
    simp [List.all_map, PyData.depth]
  rw [h1, lay0_ints, h2, List.length_map, decide_eq_true h]
  simp [List.all_map]
theorem lay0_rows : ∀ xs : List (List Int), PyData.canLayAll0 (xs.map cTp) = true
  | [] => rfl
  | x :: xs => by
    rw [List.map_cons, PyData.canLayAll0, lay0_rows xs]
    show (PyData.canLay0 (cTp x) && true) = true
    rw [Bool.and_true]
    unfold cTp
    rw [PyData.canLay0, lay0_ints]
theorem sortOk_rows {xs : List (List Int)} (h : xs.length ≤ 1000000) (hp : ∀ x ∈ xs, x ≠ []) : sortOk (xs.map cTp) = true := by
  unfold sortOk sortAl sortKd
  have h1 : ((xs.map cTp).all fun d => (xs.map cTp).all fun e => PySem.W.alike d e) = true := by
    rw [List.all_map]
    refine List.all_eq_true.mpr fun x _ => ?_
    show ((xs.map cTp).all fun e => PySem.W.alike (cTp x) e) = true
    rw [List.all_map]
    refine List.all_eq_true.mpr fun y _ => ?_
    show PySem.W.alike (.tuple (x.map .int)) (.tuple (y.map .int)) = true
    rw [PySem.W.alike, PySem.W.alike_ints]
  have h2 : ((xs.map cTp).all fun d => decide (d.depth ≤ 60)) = true := by
    rw [List.all_map]
    refine List.all_eq_true.mpr fun x _ => ?_
    show decide ((cTp x).depth ≤ 60) = true
    unfold cTp
    rw [PyData.depth, PySem.W.depth_ints]; rfl
  have h3 : ((xs.map cTp).all fun d => match d with
  | .tuple (_ :: _) => true
  | _ => false) = true := by
    rw [List.all_map]
    refine List.all_eq_true.mpr fun x hx => ?_
    cases x with
    | nil => exact absurd rfl (hp _ hx)
    | cons y r => rfl
  rw [h1, lay0_rows, h2, List.length_map, decide_eq_true h]
  simp only [Bool.true_and, Bool.and_true]
  exact Bool.or_eq_true_iff.mpr (.inl h3)
theorem intsOf_ints : ∀ o : List Int, intsOf (o.map .int) = some o
  | [] => rfl
  | x :: o => by
    rw [List.map_cons, intsOf, intsOf_ints o]; rfl
theorem cut_lo {α : Type} {xs : List α} {i : Int} (h : 0 ≤ i) : cutD xs none (some i) = xs.take i.toNat := by
  unfold cutD
  rw [HT.sIx_none, show i = ((i.toNat : Nat) : Int) by omega, HT.sIx_nat, Int.toNat_natCast, List.drop_zero, Nat.sub_zero]
  by_cases z : i.toNat ≤ xs.length
  · rw [Nat.min_eq_left z]
  · rw [Nat.min_eq_right (by omega), List.take_length, List.take_of_length_le (by omega)]
theorem cut_hi {α : Type} {xs : List α} {i : Int} (h : 0 ≤ i) : cutD xs (some i) none = xs.drop i.toNat := by
  unfold cutD
  rw [HT.sIx_none, show i = ((i.toNat : Nat) : Int) by omega, HT.sIx_nat, Int.toNat_natCast]
  by_cases z : i.toNat ≤ xs.length
  · rw [Nat.min_eq_left z, List.take_of_length_le (by simp)]
  · rw [Nat.min_eq_right (by omega), List.drop_length, List.drop_of_length_le (by omega)]; simp
def maxD (o : List Int) (i : Int) : Int := (maxOfI o).getD i
theorem atom_ints (o : List Int) : (o.map PyData.int).all atom = true := by rw [List.all_map]; exact List.all_eq_true.mpr fun _ _ => rfl
section
variable {β : Type} {h : HX β} {env e : Env} {n m : Bool} {d : PyData} {ds : List PyData} {f fa fb : FE} {v va vb : FV} {t u : FT} {a b : FA} {p q : FS} {o o' : List Int} {i j : Int}
@[simp ↓ high] theorem tkK_I {k : List Key → Rs β} : tkK (cTp o) k = k (kI o) := by unfold tkK; rw [tkey_kI]
@[simp ↓] theorem tkK_nil {k : List Key → Rs β} : tkK (.tuple []) k = k (kI []) := id rfl
def sqK (d : PyData) (k : List PyData → Rs β) : Rs β := match seqL d with
  | some ds => k ds
  | none => .bad
@[simp ↓] theorem sqK_t {k : List PyData → Rs β} : sqK (.tuple ds) k = k ds := id rfl
@[simp ↓] theorem sqK_l {k : List PyData → Rs β} : sqK (.list ds) k = k ds := id rfl
def stA (n : Bool) (ds : List PyData) (ps : List Dv) : List Dv := ds.map (fun d => (n || atom d, d)) ++ ps
@[simp ↓] theorem cA_star {k : Env → List Dv → Rs β} : cA (fStar v a) env h k = cV v env h fun e n d => sqK d fun ds => cA a e h fun e ps => k e (stA n ds ps) := by
  unfold cA cV fStar
  rw [on_bind]
  refine congrArg _ (funext fun p => ?_)
  unfold sqK
  dsimp only
  cases seqL p.2.2 with
  | none => rfl
  | some ds =>
    dsimp only
    rw [on_bind]; rfl
@[simp ↓ high] theorem cTu_star {k : Bool → List PyData → Rs β} : cTu (stA n (o.map .int) [(true, .int i)]) 0 k = grd (decide (o.length + 1 ≤ 10000)) (k true ((o ++ [i]).map .int)) := by
  rw [cTu_eq, Nat.zero_add]
  have e1 : flags (stA n (o.map .int) [(true, .int i)]) = true := by
    unfold stA flags
    rw [List.all_append, List.all_map, List.all_map, Bool.and_eq_true]
    exact ⟨List.all_eq_true.mpr fun x _ => Bool.or_true n, rfl⟩
  have e2 : datas (stA n (o.map .int) [(true, .int i)]) = (o ++ [i]).map .int := by
    unfold stA datas
    rw [List.map_append, List.map_map, List.map_map, List.map_append]; rfl
  have e3 : (stA n (o.map .int) [(true, .int i)]).length = o.length + 1 := by simp [stA]
  rw [e1, e2, e3]
@[simp ↓] theorem cO_newD {i : Nat} {k : Out → Rs β} : cO (fNewD i) env h k = cP i env (some (.od [])) fun e => k (.nx e) := id rfl
@[simp ↓ high] theorem cR_notInT {acc : List (List Int × Int)} {k : R → Rs β} : cR (gInT true (n, cTp o) (m, dD (cAcc acc))) h k = k (.sh true (.bool (valG acc o).isNone)) := by
  have e1 : entsT (dD (cAcc acc)) = some ((cAcc acc).map fun p => (encT p.1, p.2)) := rfl
  unfold cR gInT
  dsimp only
  rw [e1, tkey_kI]
  dsimp only
  rw [if_pos rfl, findT_enc, valG_acc]
  cases valG acc o <;> rfl
@[simp ↓ high] theorem cR_inT {acc : List (List Int × Int)} {k : R → Rs β} : cR (gInT false (n, cTp o) (m, dD (cAcc acc))) h k = k (.sh true (.bool (valG acc o).isSome)) := by
  have e1 : entsT (dD (cAcc acc)) = some ((cAcc acc).map fun p => (encT p.1, p.2)) := rfl
  unfold cR gInT
  dsimp only
  rw [e1, tkey_kI]
  dsimp only
  rw [if_neg (by decide), findT_enc, valG_acc]
  cases valG acc o <;> rfl
theorem cR_atT {acc : List (List Int × Int)} {k : R → Rs β} (z : valG acc o = some i) : cR (gAtT (n, dD (cAcc acc)) (m, cTp o)) h k = k (.sh true (.int i)) := by
  have e1 : entsT (dD (cAcc acc)) = some ((cAcc acc).map fun p => (encT p.1, p.2)) := rfl
  unfold cR gAtT
  dsimp only
  rw [e1, tkey_kI]
  dsimp only
  rw [findT_enc, valG_acc, z]; rfl
def pdK (i : Nat) (e : Env) (d : PyData) (dk : PyData) (k : Out → Rs β) : Rs β := match e[i]? with
  | some (some (.od q)) => match tkey dk with
    | some key => grd (atom d && decide (q.length < 1000000)) (k (.nx (e.set i (some (.od (putG q key d))))))
    | none => .bad
  | _ => .bad
@[simp ↓] theorem cO_putD {i : Nat} {k : Out → Rs β} : cO (fPutD i va vb) env h k = cV vb env h fun e _ d => grd (isOd e i) (cV va e h fun e _ dk => pdK i e d dk k) := by
  unfold cO cV fPutD
  rw [on_bind]
  refine congrArg _ (funext fun p => ?_)
  rw [on_grd, on_bind]
  refine congrArg _ (congrArg _ (funext fun p2 => ?_))
  obtain ⟨e2, m2, dk⟩ := p2
  show on (match e2[i]? with
    | some (some (.od q)) => match tkey dk with
      | some key => grd (atom p.2.2 && decide (q.length < 1000000)) (.ok (.nx (e2.set i (some (.od (putG q key p.2.2))))))
      | none => .bad
    | _ => .bad) h k = pdK i e2 p.2.2 dk k
  unfold pdK
  cases e2[i]? with
  | none => rfl
  | some s => cases s with
    | none => rfl
    | some s => cases s with
      | od q =>
        dsimp only
        cases tkey dk with
        | none => rfl
        | some key => exact on_grd _ _ _ _
      | _ => rfl
@[simp ↓] theorem cE_dispT {k : Env → R → Rs β} : cE (fDispT va vb) env h k = cV va env (fun _ _ => .bad) fun e _ d => tkK d fun key => cV vb e (fun _ _ => .bad) fun e _ d2 => grd (atom d2) (k e (.sh false (dL [(key, d2)]))) := by
  unfold cE cV fDispT
  rw [noex_on]
  have on2 : ∀ {α γ : Type} (r : Rs α) (q : α → Rs γ) (k : γ → Rs β), on (on r (fun _ _ => .bad) q) h k = on r (fun _ _ => .bad) fun a => on (q a) h k := fun r q k => by cases r <;> rfl
  rw [on2]
  refine congrArg _ (funext fun p => ?_)
  unfold tkK
  dsimp only
  cases tkey p.2.2 with
  | none => rfl
  | some key =>
    dsimp only
    rw [noex_on, on2]
    refine congrArg _ (funext fun p2 => ?_)
    rw [on_grd]; rfl
@[simp ↓ high] theorem dL_one : dL [(kI o, .int i)] = dL (cAcc [(o, i)]) := id rfl
def elK (d : PyData) (k : List (PyData × PyData) → Rs β) : Rs β := match entsL d with
  | some es => k es
  | none => .bad
@[simp ↓] theorem elK_d {es : List (List Key × PyData)} {k : List (PyData × PyData) → Rs β} : elK (dL es) k = k (es.map fun p => (encT p.1, p.2)) := id rfl
theorem gGet_acc {acc : List (List Int × Int)} : gGet ((cAcc acc).map fun p => (encT p.1, p.2)) (kI o) = .sh true (cOI (valG acc o)) := by
  rw [gGet_enc, valG_acc]
  cases valG acc o <;> rfl
@[simp ↓] theorem cE_getL {k : Env → R → Rs β} : cE (fGetL va vb) env h k = cV va env h fun e n d => elK d fun es => cV vb e h fun e m d' => tkK d' fun ks => k e (gGet es ks) := by
  unfold cE cV fGetL
  rw [on_bind]
  refine congrArg _ (funext fun p => ?_)
  unfold elK
  dsimp only
  cases entsL p.2.2 with
  | none => rfl
  | some es =>
    dsimp only
    rw [on_bind]
    refine congrArg _ (funext fun p2 => ?_)
    unfold tkK
    dsimp only
    cases tkey p2.2.2 <;> rfl
/-- for k, v in d.items() -/
abbrev cEnt (p : List Int × Int) : PyData := .tuple [cTp p.1, .int p.2]
def iwK (j : Nat) (g : FG) (body : FS) (e : Env) (d : PyData) (h : HX β) (k : Out → Rs β) : Rs β := on (match entsL d with
  | some kvs => match odOf e j with
    | some _ => endW e.length j (fLoop g body (kvs.map fun kv => (false, .tuple [kv.1, kv.2])) (innerE j e))
    | none => .bad
  | none => .bad) h k
@[simp ↓] theorem cO_items {j : Nat} {g : FG} {k : Out → Rs β} : cO (fItemsW j v g p) env h k = cV v env h fun e _ d => iwK j g p e d h k := by
  unfold cO cV fItemsW
  rw [on_bind]; rfl
theorem iwK_ok {j : Nat} {g : FG} {k : Out → Rs β} {xs out : List (List Int × Int)} {q0 : List (List Key × PyData)} {e1 : Env} (hq : odOf e j = some q0) (hL : fLoop g p (wk false (xs.map cEnt)) (innerE j e) = .ok (.nx e1)) (ho : odOf e1 j = some (cAcc out)) (hl : e1.length = e.length) :
    iwK j g p e (dL (cAcc xs)) h k = k (.nx (onlyD e.length j (cAcc out))) := by
  have e0 : entsL (dL (cAcc xs)) = some ((cAcc xs).map fun p => (encT p.1, p.2)) := rfl
  have e2 : (((cAcc xs).map fun p => (encT p.1, p.2)).map fun kv => ((false, .tuple [kv.1, kv.2]) : Dv)) = wk false (xs.map cEnt) := by
    unfold wk
    rw [List.map_map, List.map_map, List.map_map]
    refine List.map_congr_left fun p _ => ?_
    show ((false, .tuple [encT (kI p.1), .int p.2]) : Dv) = (false, .tuple [cTp p.1, .int p.2])
    rw [encT_kI]
  have e3 : (cAcc out).all (fun p => atom p.2) = true := by rw [List.all_map]; exact List.all_eq_true.mpr fun _ _ => rfl
  unfold iwK
  rw [e0]
  dsimp only
  rw [hq]
  dsimp only
  rw [e2, hL]
  unfold endW
  dsimp only
  rw [ho]
  dsimp only
  rw [e3, hl, decide_eq_true rfl]; rfl
theorem cL_loop {g : FG} {xs : List Dv} {o : Out} (z : cL g p xs e (fun e x => .ex e x) (fun o => .ok o) = .ok o) : fLoop g p xs e = .ok o := by
  unfold cL at z; rw [on_ok] at z; exact z
@[simp ↓] theorem od_flag {q : List (List Key × PyData)} : (Sl.od q).flag = false := id rfl
@[simp ↓] theorem od_data {q : List (List Key × PyData)} : (Sl.od q).data = dD q := id rfl
@[simp ↓ high] theorem cR_sortedT {k : R → Rs β} (z : o.length ≤ 1000000) : cR (bSorted (n, cTp o)) h k = k (.nw true ((sortI o).map .int)) := by
  unfold cR bSorted seqL
  dsimp only
  rw [sortOk_ints z, atom_ints, srt_ints, Bool.or_true]; rfl
@[simp ↓ high] theorem cR_sortedL {k : R → Rs β} (z : o.length ≤ 1000000) : cR (bSorted (n, .list (o.map .int))) h k = k (.nw true ((sortI o).map .int)) := by
  unfold cR bSorted seqL
  dsimp only
  rw [sortOk_ints z, atom_ints, srt_ints, Bool.or_true]; rfl
theorem cR_sortedR {xs : List (List Int)} {k : R → Rs β} (z : xs.length ≤ 1000000) (hp : ∀ x ∈ xs, x ≠ []) (hs : xs.Pairwise (· ≤ ·)) : cR (bSorted (true, .list (xs.map cTp))) h k = k (.nw true (xs.map cTp)) := by
  unfold cR bSorted seqL
  dsimp only
  rw [sortOk_rows z hp, srt_rows hs]; rfl
@[simp ↓ high] theorem cR_tupleL {k : R → Rs β} : cR (bTuple (n, .list (o.map .int))) h k = k (.sh true (cTp o)) := by
  unfold cR bTuple
  dsimp only
  rw [atom_ints, Bool.or_true]; rfl
@[simp ↓ high] theorem cR_listT {k : R → Rs β} : cR (bList (n, cTp o)) h k = k (.nw true (o.map .int)) := by
  unfold cR bList seqL
  dsimp only
  rw [atom_ints, Bool.or_true]; rfl
@[simp ↓ high] theorem cR_sum {k : R → Rs β} : cR (bSum (n, .list (o.map .int))) h k = k (.sh true (.int o.sum)) := by
  unfold cR bSum
  dsimp only
  rw [intsOf_ints]; rfl
theorem cR_sumOI {xs : List (Option Int)} {k : R → Rs β} (z : xs = o.map some) : cR (bSum (n, .list (xs.map cOI))) h k = k (.sh true (.int o.sum)) := by
  rw [z, List.map_map, show (cOI ∘ some) = PyData.int from rfl, cR_sum]
@[simp ↓] theorem cE_maxD {k : Env → R → Rs β} : cE (fMaxD va vb) env h k = cV va env h fun e n d => cV vb e h fun e m d' => cR (bMaxD [(n, d)] [(m, d')]) h fun r => k e r := by
  unfold cE cV cR fMaxD
  rw [on_bind]
  refine congrArg _ (funext fun p => ?_)
  rw [on_bind]
  refine congrArg _ (funext fun q => ?_)
  rw [on_bind]; rfl
@[simp ↓ high] theorem cR_maxD {k : R → Rs β} : cR (bMaxD [(n, cTp o)] [(m, .int i)]) h k = k (.sh true (.int (maxD o i))) := by
  unfold cR bMaxD maxD
  dsimp only
  rw [intsOf_ints]
  dsimp only
  cases maxOfI o <;> rfl
@[simp ↓] theorem cE_callD {S : SF} {dds : List PyData} {k : Env → R → Rs β} : cE (fCallD S dds a) env h k = cA a env h fun e ps => cD ps fun ds => cC (S (ds ++ dds)) e h k := by
  unfold cE cA fCallD
  rw [on_bind]
  refine congrArg _ (funext fun p => ?_)
  dsimp only
  rw [cD_eq]; rfl
@[simp ↓] theorem cR_neg {k : R → Rs β} : cR (gNeg (n, .int i)) h k = k (.sh true (.int (-i))) := id rfl
theorem cR_ixLast {k : R → Rs β} (z : o ≠ []) : cR (gIx (n, cTp o) (m, .int (-1))) h k = k (.sh true (.int (o.getLastD 0))) := by
  have hl : 0 < o.length := List.length_pos_iff.mpr z
  have : atI (o.map PyData.int) (-1) = some (.int (o.getLastD 0)) := by
    unfold atI ixN
    rw [if_neg (by decide), List.length_map, if_pos (by omega)]
    show (o.map PyData.int)[((-1 : Int) + o.length).toNat]? = _
    rw [List.getElem?_map, show ((-1 : Int) + o.length).toNat = o.length - 1 by omega, ← List.getLast?_eq_getElem?, List.getLastD_eq_getLast?]
    rw [List.getLast?_eq_some_getLast z]; rfl
  rw [cR_ixT, this, ixK_s]
  rw [show atom (.int (o.getLastD 0)) = true from rfl, Bool.or_true]
@[simp ↓ high] theorem cR_slLo {α : Type} {c : α → PyData} {xs : List α} {k : R → Rs β} (z : 0 ≤ i) : cR (gSl (n, .tuple (xs.map c)) none (some i)) h k = k (.sh n (.tuple ((xs.take i.toNat).map c))) := by
  rw [cR_st, cut_lo z, List.map_take]
@[simp ↓ high] theorem cR_slHi {α : Type} {c : α → PyData} {xs : List α} {k : R → Rs β} (z : 0 ≤ i) : cR (gSl (n, .tuple (xs.map c)) (some i) none) h k = k (.sh n (.tuple ((xs.drop i.toNat).map c))) := by
  rw [cR_st, cut_hi z, List.map_drop]
@[simp ↓ high] theorem cR_addTm {α : Type} {c : α → PyData} {xs ys : List α} {k : R → Rs β} : cR (gAdd (n, .tuple (xs.map c)) (m, .tuple (ys.map c))) h k = grd (decide (xs.length + ys.length ≤ 1000000)) (k (.sh (n && m) (.tuple ((xs ++ ys).map c)))) := by
  rw [cR_addT, List.map_append, List.length_map, List.length_map]
@[simp ↓ high] theorem cR_addLm {α : Type} {c : α → PyData} {xs ys : List α} {k : R → Rs β} : cR (gAdd (n, .list (xs.map c)) (m, .list (ys.map c))) h k = grd (decide (xs.length + ys.length ≤ 1000000)) (k (.nw (n && m) ((xs ++ ys).map c))) := by
  rw [cR_addL, List.map_append, List.length_map, List.length_map]
@[simp ↓ 20000] theorem cR_addT1 {k : R → Rs β} : cR (gAdd (n, cTp o) (m, .tuple [.int i])) h k = grd (decide (o.length + 1 ≤ 1000000)) (k (.sh (n && m) (cTp (o ++ [i])))) := by
  rw [cR_addT, List.length_map]
  show grd _ (k (.sh (n && m) (.tuple (o.map .int ++ [i].map .int)))) = _
  rw [← List.map_append]; rfl
@[simp ↓ 20000] theorem cR_add1L {k : R → Rs β} : cR (gAdd (n, .list [.int i]) (m, .list (o.map .int))) h k = grd (decide (o.length + 1 ≤ 1000000)) (k (.nw (n && m) ((i :: o).map .int))) := by
  rw [cR_addL, List.length_map, List.length_singleton, Nat.add_comm]; rfl
end
def lc2A (g : FG) (t : FT) (it1 : FA) (n : Bool) (d : PyData) (e : Env) : Rs (Option (Env × List Dv)) :=
  cG g n d e (fun _ _ => .bad) fun e1 => cT t e1 (fun _ _ => .bad) fun b => ifK b (cA it1 e1 (fun _ _ => .bad) fun e2 xs => .ok (some (e2, xs))) (.ok none)
section
variable {β : Type} {h : HX β} {env e e1 : Env} {n m : Bool} {d : PyData} {own vs1 : List Nat} {g g1 : FG} {t t1 : FT} {it it1 : FA} {el : FV}
theorem lc2_step {xs acc zs : List Dv} {x : Dv} {acc' : List Dv} {e2 : Env} (hA : lc2A g t it1 x.1 x.2 e = .ok (some (e1, zs))) (hL : fLcL vs1 g1 t1 el zs (wipeE e1 vs1) acc = .ok (e2, acc')) :
    fLcO own vs1 g t it1 g1 t1 el (x :: xs) e acc = fLcO own vs1 g t it1 g1 t1 el xs (wipeE e2 own) acc' := by
  obtain ⟨n, d⟩ := x
  show (noex (g (n, d) e)).bind _ = _
  unfold lc2A cG at hA
  dsimp only at hA
  cases q1 : g (n, d) e with
  | bad => rw [q1] at hA; cases hA
  | ex e y => rw [q1] at hA; cases hA
  | ok e3 =>
    rw [q1] at hA
    show (noex (t e3)).bind _ = _
    have hA : cT t e3 (fun _ _ => .bad) (fun b => ifK b (cA it1 e3 (fun _ _ => .bad) fun e2 xs => .ok (some (e2, xs))) (.ok none)) = .ok (some (e1, zs)) := hA
    unfold cT at hA
    cases q2 : t e3 with
    | bad => rw [q2] at hA; cases hA
    | ex e y => rw [q2] at hA; cases hA
    | ok b =>
      rw [q2] at hA
      cases b with
      | false =>
        have hA : (.ok none : Rs (Option (Env × List Dv))) = .ok (some (e1, zs)) := hA
        cases hA
      | true =>
        have hA : cA it1 e3 (fun _ _ => .bad) (fun e2 xs => .ok (some (e2, xs))) = (.ok (some (e1, zs)) : Rs (Option (Env × List Dv))) := hA
        unfold cA at hA
        show (noex (it1 e3)).bind _ = _
        cases q3 : it1 e3 with
        | bad => rw [q3] at hA; cases hA
        | ex e y => rw [q3] at hA; cases hA
        | ok p =>
          rw [q3] at hA
          have hA : (.ok (some (p.1, p.2)) : Rs (Option (Env × List Dv))) = .ok (some (e1, zs)) := hA
          obtain ⟨p1, p2⟩ := p
          cases hA
          show (fLcL vs1 g1 t1 el p2 (wipeE p1 vs1) acc).bind _ = _
          rw [hL]; rfl
def cLc2 (own vs1 : List Nat) (g : FG) (t : FT) (it1 : FA) (g1 : FG) (t1 : FT) (el : FV) (xs : List Dv) (e : Env) (h : HX β) (k : Env → R → Rs β) : Rs β := grd (okOwn e own) (on (fLcO own vs1 g t it1 g1 t1 el xs (wipeE e own) []) h fun q => k (backE e q.1 own) (.nw (flags q.2) (datas q.2)))
@[simp ↓] theorem cE_lc2 {k : Env → R → Rs β} : cE (fLc2 own vs1 it g t it1 g1 t1 el) env h k = cA it env h fun e xs => cLc2 own vs1 g t it1 g1 t1 el xs e h k := by
  unfold cE cA cLc2 fLc2
  rw [on_bind]
  refine congrArg _ (funext fun p => ?_)
  rw [on_grd, on_bind]; rfl
theorem cLc2_m {α ζ γ : Type} {ys : List α} {c : α → PyData} {cz : ζ → PyData} {c' : γ → PyData} {k : Env → R → Rs β} {res : Rs β} (zs : α → List ζ) (f : α → ζ → γ) (E : α → Env)
    (hw : wipeE e own = e) (ho : okOwn e own = true) (hb : backE e e own = e)
    (hA : ∀ y ∈ ys, lc2A g t it1 n (c y) e = .ok (some (E y, wk true ((zs y).map cz))))
    (hz : ∀ y ∈ ys, ∀ z ∈ zs y, lcE vs1 g1 t1 el true (cz z) (wipeE (E y) vs1) = .ok (wipeE (E y) vs1, some (true, c' (f y z))))
    (hE : ∀ y ∈ ys, wipeE (wipeE (E y) vs1) own = e)
    (hl : (ys.flatMap fun y => (zs y).map (f y)).length ≤ 1000000)
    (hk : k e (.nw true ((ys.flatMap fun y => (zs y).map (f y)).map c')) = res) :
    cLc2 own vs1 g t it1 g1 t1 el (wk n (ys.map c)) e h k = res := by
  have key : ∀ (l : List α) (acc : List Dv), (∀ y ∈ l, y ∈ ys) → acc.length + (l.flatMap fun y => (zs y).map (f y)).length ≤ 1000000 → fLcO own vs1 g t it1 g1 t1 el (wk n (l.map c)) e acc = .ok (e, acc ++ (l.flatMap fun y => (zs y).map (f y)).map fun z => (true, c' z)) := by
    intro l
    induction l with
    | nil => intro acc _ _; simp [fLcO, wk]
    | cons y l ih =>
      intro acc hy hlen
      rw [List.flatMap_cons, List.length_append, List.length_map] at hlen
      have hyy := hy y List.mem_cons_self
      have h1 := fLcL_typ (own := vs1) (g := g1) (t := t1) (el := el) (e := wipeE (E y) vs1) (c := cz) (n := true) (m := true) (c' := c') (f := fun z => some (f y z)) (zs y) acc (by omega) (hz y hyy)
      rw [show wk n ((y :: l).map c) = (n, c y) :: wk n (l.map c) from rfl, lc2_step (hA y hyy) h1, hE y hyy]
      rw [ih _ (fun z hz => hy z (List.mem_cons_of_mem _ hz)) (by simp only [List.length_append, List.length_map, List.filterMap_eq_map']; omega)]
      rw [List.flatMap_cons, List.map_append, List.filterMap_eq_map', List.append_assoc]
  have h2 := key ys [] (fun _ h => h) (by simpa using hl)
  unfold cLc2
  rw [ho, hw, h2, List.nil_append]
  show k (backE e e own) _ = res
  rw [hb, flags_const, datas_const]
  exact hk
end
section
variable {β : Type} {h : HX β} {n m : Bool} {d : PyData} {ds : List PyData} {r : Env} {kE : Env → R → Rs β} {kV : Env → Bool → PyData → Rs β} {kO : Out → Rs β} {q : List (List Key × PyData)} {acc : List (List Int × Int)} {o : List Int} {x : Int}
@[simp ↓] theorem vOd_0 : cV (rd (fVar 0)) (lent (some (.od q) :: r)) h kV = kV (lent (some (.od q) :: r)) false (dD q) := id rfl
@[simp ↓] theorem isOd_0 {z : Rs β} : grd (isOd (some (.od q) :: r) 0) z = z := id rfl
@[simp ↓] theorem pdK_0 : pdK 0 (some (.od (cAcc acc)) :: r) (.int x) (cTp o) kO = grd (decide (acc.length < 1000000)) (kO (.nx (some (.od (cAcc (putG acc o x))) :: r))) := by
  unfold pdK
  show (match tkey (cTp o) with | some key => grd (true && decide ((cAcc acc).length < 1000000)) (kO (.nx (some (.od (putG (cAcc acc) key (.int x))) :: r))) | none => .bad) = _
  rw [tkey_kI]; dsimp only; rw [putG_acc, List.length_map, Bool.true_and]
@[simp ↓] theorem rOd_0 : cO (fRetD 0) (some (.od q) :: r) h kO = kO (.rt (.sh false (dL q))) := id rfl
@[simp ↓] theorem vOd_1 {s0 : Option Sl} : cV (rd (fVar 1)) (lent (s0 :: some (.od q) :: r)) h kV = kV (lent (s0 :: some (.od q) :: r)) false (dD q) := id rfl
@[simp ↓] theorem isOd_1 {s0 : Option Sl} {z : Rs β} : grd (isOd (s0 :: some (.od q) :: r) 1) z = z := id rfl
@[simp ↓] theorem pdK_1 {s0 : Option Sl} : pdK 1 (s0 :: some (.od (cAcc acc)) :: r) (.int x) (cTp o) kO = grd (decide (acc.length < 1000000)) (kO (.nx (s0 :: some (.od (cAcc (putG acc o x))) :: r))) := by
  unfold pdK
  show (match tkey (cTp o) with | some key => grd (true && decide ((cAcc acc).length < 1000000)) (kO (.nx (s0 :: some (.od (putG (cAcc acc) key (.int x))) :: r))) | none => .bad) = _
  rw [tkey_kI]; dsimp only; rw [putG_acc, List.length_map, Bool.true_and]
@[simp ↓] theorem rOd_1 {s0 : Option Sl} : cO (fRetD 1) (s0 :: some (.od q) :: r) h kO = kO (.rt (.sh false (dL q))) := id rfl
@[simp ↓] theorem vOd_2 {s0 s1 : Option Sl} : cV (rd (fVar 2)) (lent (s0 :: s1 :: some (.od q) :: r)) h kV = kV (lent (s0 :: s1 :: some (.od q) :: r)) false (dD q) := id rfl
@[simp ↓] theorem isOd_2 {s0 s1 : Option Sl} {z : Rs β} : grd (isOd (s0 :: s1 :: some (.od q) :: r) 2) z = z := id rfl
@[simp ↓] theorem pdK_2 {s0 s1 : Option Sl} : pdK 2 (s0 :: s1 :: some (.od (cAcc acc)) :: r) (.int x) (cTp o) kO = grd (decide (acc.length < 1000000)) (kO (.nx (s0 :: s1 :: some (.od (cAcc (putG acc o x))) :: r))) := by
  unfold pdK
  show (match tkey (cTp o) with | some key => grd (true && decide ((cAcc acc).length < 1000000)) (kO (.nx (s0 :: s1 :: some (.od (putG (cAcc acc) key (.int x))) :: r))) | none => .bad) = _
  rw [tkey_kI]; dsimp only; rw [putG_acc, List.length_map, Bool.true_and]
@[simp ↓] theorem rOd_2 {s0 s1 : Option Sl} : cO (fRetD 2) (s0 :: s1 :: some (.od q) :: r) h kO = kO (.rt (.sh false (dL q))) := id rfl
@[simp ↓] theorem vOd_3 {s0 s1 s2 : Option Sl} : cV (rd (fVar 3)) (lent (s0 :: s1 :: s2 :: some (.od q) :: r)) h kV = kV (lent (s0 :: s1 :: s2 :: some (.od q) :: r)) false (dD q) := id rfl
@[simp ↓] theorem isOd_3 {s0 s1 s2 : Option Sl} {z : Rs β} : grd (isOd (s0 :: s1 :: s2 :: some (.od q) :: r) 3) z = z := id rfl
@[simp ↓] theorem pdK_3 {s0 s1 s2 : Option Sl} : pdK 3 (s0 :: s1 :: s2 :: some (.od (cAcc acc)) :: r) (.int x) (cTp o) kO = grd (decide (acc.length < 1000000)) (kO (.nx (s0 :: s1 :: s2 :: some (.od (cAcc (putG acc o x))) :: r))) := by
  unfold pdK
  show (match tkey (cTp o) with | some key => grd (true && decide ((cAcc acc).length < 1000000)) (kO (.nx (s0 :: s1 :: s2 :: some (.od (putG (cAcc acc) key (.int x))) :: r))) | none => .bad) = _
  rw [tkey_kI]; dsimp only; rw [putG_acc, List.length_map, Bool.true_and]
@[simp ↓] theorem rOd_3 {s0 s1 s2 : Option Sl} : cO (fRetD 3) (s0 :: s1 :: s2 :: some (.od q) :: r) h kO = kO (.rt (.sh false (dL q))) := id rfl
@[simp ↓] theorem vOd_4 {s0 s1 s2 s3 : Option Sl} : cV (rd (fVar 4)) (lent (s0 :: s1 :: s2 :: s3 :: some (.od q) :: r)) h kV = kV (lent (s0 :: s1 :: s2 :: s3 :: some (.od q) :: r)) false (dD q) := id rfl
@[simp ↓] theorem isOd_4 {s0 s1 s2 s3 : Option Sl} {z : Rs β} : grd (isOd (s0 :: s1 :: s2 :: s3 :: some (.od q) :: r) 4) z = z := id rfl
@[simp ↓] theorem pdK_4 {s0 s1 s2 s3 : Option Sl} : pdK 4 (s0 :: s1 :: s2 :: s3 :: some (.od (cAcc acc)) :: r) (.int x) (cTp o) kO = grd (decide (acc.length < 1000000)) (kO (.nx (s0 :: s1 :: s2 :: s3 :: some (.od (cAcc (putG acc o x))) :: r))) := by
  unfold pdK
  show (match tkey (cTp o) with | some key => grd (true && decide ((cAcc acc).length < 1000000)) (kO (.nx (s0 :: s1 :: s2 :: s3 :: some (.od (putG (cAcc acc) key (.int x))) :: r))) | none => .bad) = _
  rw [tkey_kI]; dsimp only; rw [putG_acc, List.length_map, Bool.true_and]
@[simp ↓] theorem rOd_4 {s0 s1 s2 s3 : Option Sl} : cO (fRetD 4) (s0 :: s1 :: s2 :: s3 :: some (.od q) :: r) h kO = kO (.rt (.sh false (dL q))) := id rfl
@[simp ↓] theorem vOd_5 {s0 s1 s2 s3 s4 : Option Sl} : cV (rd (fVar 5)) (lent (s0 :: s1 :: s2 :: s3 :: s4 :: some (.od q) :: r)) h kV = kV (lent (s0 :: s1 :: s2 :: s3 :: s4 :: some (.od q) :: r)) false (dD q) := id rfl
@[simp ↓] theorem isOd_5 {s0 s1 s2 s3 s4 : Option Sl} {z : Rs β} : grd (isOd (s0 :: s1 :: s2 :: s3 :: s4 :: some (.od q) :: r) 5) z = z := id rfl
@[simp ↓] theorem pdK_5 {s0 s1 s2 s3 s4 : Option Sl} : pdK 5 (s0 :: s1 :: s2 :: s3 :: s4 :: some (.od (cAcc acc)) :: r) (.int x) (cTp o) kO = grd (decide (acc.length < 1000000)) (kO (.nx (s0 :: s1 :: s2 :: s3 :: s4 :: some (.od (cAcc (putG acc o x))) :: r))) := by
  unfold pdK
  show (match tkey (cTp o) with | some key => grd (true && decide ((cAcc acc).length < 1000000)) (kO (.nx (s0 :: s1 :: s2 :: s3 :: s4 :: some (.od (putG (cAcc acc) key (.int x))) :: r))) | none => .bad) = _
  rw [tkey_kI]; dsimp only; rw [putG_acc, List.length_map, Bool.true_and]
@[simp ↓] theorem rOd_5 {s0 s1 s2 s3 s4 : Option Sl} : cO (fRetD 5) (s0 :: s1 :: s2 :: s3 :: s4 :: some (.od q) :: r) h kO = kO (.rt (.sh false (dL q))) := id rfl
@[simp ↓] theorem vOd_6 {s0 s1 s2 s3 s4 s5 : Option Sl} : cV (rd (fVar 6)) (lent (s0 :: s1 :: s2 :: s3 :: s4 :: s5 :: some (.od q) :: r)) h kV = kV (lent (s0 :: s1 :: s2 :: s3 :: s4 :: s5 :: some (.od q) :: r)) false (dD q) := id rfl
@[simp ↓] theorem isOd_6 {s0 s1 s2 s3 s4 s5 : Option Sl} {z : Rs β} : grd (isOd (s0 :: s1 :: s2 :: s3 :: s4 :: s5 :: some (.od q) :: r) 6) z = z := id rfl
@[simp ↓] theorem pdK_6 {s0 s1 s2 s3 s4 s5 : Option Sl} : pdK 6 (s0 :: s1 :: s2 :: s3 :: s4 :: s5 :: some (.od (cAcc acc)) :: r) (.int x) (cTp o) kO = grd (decide (acc.length < 1000000)) (kO (.nx (s0 :: s1 :: s2 :: s3 :: s4 :: s5 :: some (.od (cAcc (putG acc o x))) :: r))) := by
  unfold pdK
  show (match tkey (cTp o) with | some key => grd (true && decide ((cAcc acc).length < 1000000)) (kO (.nx (s0 :: s1 :: s2 :: s3 :: s4 :: s5 :: some (.od (putG (cAcc acc) key (.int x))) :: r))) | none => .bad) = _
  rw [tkey_kI]; dsimp only; rw [putG_acc, List.length_map, Bool.true_and]
@[simp ↓] theorem rOd_6 {s0 s1 s2 s3 s4 s5 : Option Sl} : cO (fRetD 6) (s0 :: s1 :: s2 :: s3 :: s4 :: s5 :: some (.od q) :: r) h kO = kO (.rt (.sh false (dL q))) := id rfl
@[simp ↓] theorem vOd_7 {s0 s1 s2 s3 s4 s5 s6 : Option Sl} : cV (rd (fVar 7)) (lent (s0 :: s1 :: s2 :: s3 :: s4 :: s5 :: s6 :: some (.od q) :: r)) h kV = kV (lent (s0 :: s1 :: s2 :: s3 :: s4 :: s5 :: s6 :: some (.od q) :: r)) false (dD q) := id rfl
@[simp ↓] theorem isOd_7 {s0 s1 s2 s3 s4 s5 s6 : Option Sl} {z : Rs β} : grd (isOd (s0 :: s1 :: s2 :: s3 :: s4 :: s5 :: s6 :: some (.od q) :: r) 7) z = z := id rfl
@[simp ↓] theorem pdK_7 {s0 s1 s2 s3 s4 s5 s6 : Option Sl} : pdK 7 (s0 :: s1 :: s2 :: s3 :: s4 :: s5 :: s6 :: some (.od (cAcc acc)) :: r) (.int x) (cTp o) kO = grd (decide (acc.length < 1000000)) (kO (.nx (s0 :: s1 :: s2 :: s3 :: s4 :: s5 :: s6 :: some (.od (cAcc (putG acc o x))) :: r))) := by
  unfold pdK
  show (match tkey (cTp o) with | some key => grd (true && decide ((cAcc acc).length < 1000000)) (kO (.nx (s0 :: s1 :: s2 :: s3 :: s4 :: s5 :: s6 :: some (.od (putG (cAcc acc) key (.int x))) :: r))) | none => .bad) = _
  rw [tkey_kI]; dsimp only; rw [putG_acc, List.length_map, Bool.true_and]
@[simp ↓] theorem rOd_7 {s0 s1 s2 s3 s4 s5 s6 : Option Sl} : cO (fRetD 7) (s0 :: s1 :: s2 :: s3 :: s4 :: s5 :: s6 :: some (.od q) :: r) h kO = kO (.rt (.sh false (dL q))) := id rfl
@[simp ↓] theorem vOd_8 {s0 s1 s2 s3 s4 s5 s6 s7 : Option Sl} : cV (rd (fVar 8)) (lent (s0 :: s1 :: s2 :: s3 :: s4 :: s5 :: s6 :: s7 :: some (.od q) :: r)) h kV = kV (lent (s0 :: s1 :: s2 :: s3 :: s4 :: s5 :: s6 :: s7 :: some (.od q) :: r)) false (dD q) := id rfl
@[simp ↓] theorem isOd_8 {s0 s1 s2 s3 s4 s5 s6 s7 : Option Sl} {z : Rs β} : grd (isOd (s0 :: s1 :: s2 :: s3 :: s4 :: s5 :: s6 :: s7 :: some (.od q) :: r) 8) z = z := id rfl
@[simp ↓] theorem pdK_8 {s0 s1 s2 s3 s4 s5 s6 s7 : Option Sl} : pdK 8 (s0 :: s1 :: s2 :: s3 :: s4 :: s5 :: s6 :: s7 :: some (.od (cAcc acc)) :: r) (.int x) (cTp o) kO = grd (decide (acc.length < 1000000)) (kO (.nx (s0 :: s1 :: s2 :: s3 :: s4 :: s5 :: s6 :: s7 :: some (.od (cAcc (putG acc o x))) :: r))) := by
  unfold pdK
  show (match tkey (cTp o) with | some key => grd (true && decide ((cAcc acc).length < 1000000)) (kO (.nx (s0 :: s1 :: s2 :: s3 :: s4 :: s5 :: s6 :: s7 :: some (.od (putG (cAcc acc) key (.int x))) :: r))) | none => .bad) = _
  rw [tkey_kI]; dsimp only; rw [putG_acc, List.length_map, Bool.true_and]
@[simp ↓] theorem rOd_8 {s0 s1 s2 s3 s4 s5 s6 s7 : Option Sl} : cO (fRetD 8) (s0 :: s1 :: s2 :: s3 :: s4 :: s5 :: s6 :: s7 :: some (.od q) :: r) h kO = kO (.rt (.sh false (dL q))) := id rfl
@[simp ↓] theorem vOd_9 {s0 s1 s2 s3 s4 s5 s6 s7 s8 : Option Sl} : cV (rd (fVar 9)) (lent (s0 :: s1 :: s2 :: s3 :: s4 :: s5 :: s6 :: s7 :: s8 :: some (.od q) :: r)) h kV = kV (lent (s0 :: s1 :: s2 :: s3 :: s4 :: s5 :: s6 :: s7 :: s8 :: some (.od q) :: r)) false (dD q) := id rfl
@[simp ↓] theorem isOd_9 {s0 s1 s2 s3 s4 s5 s6 s7 s8 : Option Sl} {z : Rs β} : grd (isOd (s0 :: s1 :: s2 :: s3 :: s4 :: s5 :: s6 :: s7 :: s8 :: some (.od q) :: r) 9) z = z := id rfl
@[simp ↓] theorem pdK_9 {s0 s1 s2 s3 s4 s5 s6 s7 s8 : Option Sl} : pdK 9 (s0 :: s1 :: s2 :: s3 :: s4 :: s5 :: s6 :: s7 :: s8 :: some (.od (cAcc acc)) :: r) (.int x) (cTp o) kO = grd (decide (acc.length < 1000000)) (kO (.nx (s0 :: s1 :: s2 :: s3 :: s4 :: s5 :: s6 :: s7 :: s8 :: some (.od (cAcc (putG acc o x))) :: r))) := by
  unfold pdK
  show (match tkey (cTp o) with | some key => grd (true && decide ((cAcc acc).length < 1000000)) (kO (.nx (s0 :: s1 :: s2 :: s3 :: s4 :: s5 :: s6 :: s7 :: s8 :: some (.od (putG (cAcc acc) key (.int x))) :: r))) | none => .bad) = _
  rw [tkey_kI]; dsimp only; rw [putG_acc, List.length_map, Bool.true_and]
@[simp ↓] theorem rOd_9 {s0 s1 s2 s3 s4 s5 s6 s7 s8 : Option Sl} : cO (fRetD 9) (s0 :: s1 :: s2 :: s3 :: s4 :: s5 :: s6 :: s7 :: s8 :: some (.od q) :: r) h kO = kO (.rt (.sh false (dL q))) := id rfl
@[simp ↓] theorem vOd_10 {s0 s1 s2 s3 s4 s5 s6 s7 s8 s9 : Option Sl} : cV (rd (fVar 10)) (lent (s0 :: s1 :: s2 :: s3 :: s4 :: s5 :: s6 :: s7 :: s8 :: s9 :: some (.od q) :: r)) h kV = kV (lent (s0 :: s1 :: s2 :: s3 :: s4 :: s5 :: s6 :: s7 :: s8 :: s9 :: some (.od q) :: r)) false (dD q) := id rfl
@[simp ↓] theorem isOd_10 {s0 s1 s2 s3 s4 s5 s6 s7 s8 s9 : Option Sl} {z : Rs β} : grd (isOd (s0 :: s1 :: s2 :: s3 :: s4 :: s5 :: s6 :: s7 :: s8 :: s9 :: some (.od q) :: r) 10) z = z := id rfl
@[simp ↓] theorem pdK_10 {s0 s1 s2 s3 s4 s5 s6 s7 s8 s9 : Option Sl} : pdK 10 (s0 :: s1 :: s2 :: s3 :: s4 :: s5 :: s6 :: s7 :: s8 :: s9 :: some (.od (cAcc acc)) :: r) (.int x) (cTp o) kO = grd (decide (acc.length < 1000000)) (kO (.nx (s0 :: s1 :: s2 :: s3 :: s4 :: s5 :: s6 :: s7 :: s8 :: s9 :: some (.od (cAcc (putG acc o x))) :: r))) := by
  unfold pdK
  show (match tkey (cTp o) with | some key => grd (true && decide ((cAcc acc).length < 1000000)) (kO (.nx (s0 :: s1 :: s2 :: s3 :: s4 :: s5 :: s6 :: s7 :: s8 :: s9 :: some (.od (putG (cAcc acc) key (.int x))) :: r))) | none => .bad) = _
  rw [tkey_kI]; dsimp only; rw [putG_acc, List.length_map, Bool.true_and]
@[simp ↓] theorem rOd_10 {s0 s1 s2 s3 s4 s5 s6 s7 s8 s9 : Option Sl} : cO (fRetD 10) (s0 :: s1 :: s2 :: s3 :: s4 :: s5 :: s6 :: s7 :: s8 :: s9 :: some (.od q) :: r) h kO = kO (.rt (.sh false (dL q))) := id rfl
@[simp ↓] theorem vOd_11 {s0 s1 s2 s3 s4 s5 s6 s7 s8 s9 s10 : Option Sl} : cV (rd (fVar 11)) (lent (s0 :: s1 :: s2 :: s3 :: s4 :: s5 :: s6 :: s7 :: s8 :: s9 :: s10 :: some (.od q) :: r)) h kV = kV (lent (s0 :: s1 :: s2 :: s3 :: s4 :: s5 :: s6 :: s7 :: s8 :: s9 :: s10 :: some (.od q) :: r)) false (dD q) := id rfl
@[simp ↓] theorem isOd_11 {s0 s1 s2 s3 s4 s5 s6 s7 s8 s9 s10 : Option Sl} {z : Rs β} : grd (isOd (s0 :: s1 :: s2 :: s3 :: s4 :: s5 :: s6 :: s7 :: s8 :: s9 :: s10 :: some (.od q) :: r) 11) z = z := id rfl
@[simp ↓] theorem pdK_11 {s0 s1 s2 s3 s4 s5 s6 s7 s8 s9 s10 : Option Sl} : pdK 11 (s0 :: s1 :: s2 :: s3 :: s4 :: s5 :: s6 :: s7 :: s8 :: s9 :: s10 :: some (.od (cAcc acc)) :: r) (.int x) (cTp o) kO = grd (decide (acc.length < 1000000)) (kO (.nx (s0 :: s1 :: s2 :: s3 :: s4 :: s5 :: s6 :: s7 :: s8 :: s9 :: s10 :: some (.od (cAcc (putG acc o x))) :: r))) := by
  unfold pdK
  show (match tkey (cTp o) with | some key => grd (true && decide ((cAcc acc).length < 1000000)) (kO (.nx (s0 :: s1 :: s2 :: s3 :: s4 :: s5 :: s6 :: s7 :: s8 :: s9 :: s10 :: some (.od (putG (cAcc acc) key (.int x))) :: r))) | none => .bad) = _
  rw [tkey_kI]; dsimp only; rw [putG_acc, List.length_map, Bool.true_and]
@[simp ↓] theorem rOd_11 {s0 s1 s2 s3 s4 s5 s6 s7 s8 s9 s10 : Option Sl} : cO (fRetD 11) (s0 :: s1 :: s2 :: s3 :: s4 :: s5 :: s6 :: s7 :: s8 :: s9 :: s10 :: some (.od q) :: r) h kO = kO (.rt (.sh false (dL q))) := id rfl
end
end Dn
namespace Dn
open PySem PySem.Spec L2
/-- what the class must say -/
structure ErrC (K : PySem.W.Frag) (C : Addr) : Prop where
  cl : (PySem.W.clsIn K C).isSome = true
  ga : PySem.W.findIn K (.ref C) "__getattribute__" = some (some (.builtin "BaseException.__getattribute__"))
  gg : PySem.W.findIn K (.ref C) "__getattr__" = some none
  su : PySem.W.subIn K (.ref C) (.type "BaseException") = some true
  ca : PySem.W.findIn K (.ref C) "__class__" = some (some (.builtin "object.__class__"))
  ge : PySem.W.specialIn K (.builtin "object.__class__") "__get__" = some (some (.builtin "getset_descriptor.__get__"))
  ta : PySem.W.takesIn K (.builtin "object.__class__") = some true
  ob : PySem.W.mroIn K C (.type "object") = some true
  hd : PySem.W.hasDictIn K C = true
theorem errC_mk {K : PySem.W.Frag} {C : Addr} (h1 : (PySem.W.clsIn K C).isSome = true) (h2 : xfB K C = true) (h3 : PySem.W.findIn K (.ref C) "__class__" = some (some (.builtin "object.__class__")))
    (h4 : PySem.W.specialIn K (.builtin "object.__class__") "__get__" = some (some (.builtin "getset_descriptor.__get__"))) (h5 : PySem.W.takesIn K (.builtin "object.__class__") = some true) (h6 : PySem.W.mroIn K C (.type "object") = some true) : ErrC K C :=
  let x := xfB_ok h2
  ⟨h1, x.ga, x.gg, x.exC, h3, h4, h5, h6, x.hdC⟩
/-- the class and the fields -/
def excD : PyData → Option (Int × List (PyData × PyData))
  | .dict ((.int 2, .int c) :: r) => some (c, r)
  | _ => none
theorem excD_enc {C : Addr} {fs : List (Str × Int)} : excD (encX C fs) = some (((C : Nat) : Int), fs.map fun p => (.str p.1, .int p.2)) := rfl
section
variable {K : PySem.W.Frag} {H0 F H : Hp} {n : Bool} {v : V} {d : PyData}
theorem is_exc {c : Int} {r : List (PyData × PyData)} (h : Is K H0 n F v d) (e : excD d = some (c, r)) : ∃ (a C : Addr) (oe : Obj) (φ : Heap → Prop) (fs : List (Str × Int)), v = .ref a ∧ c = ((C : Nat) : Int) ∧ r = fs.map (fun p => (.str p.1, .int p.2)) ∧ F a = some (.frz oe (.ext φ)) ∧ oe.cls = .ref C ∧ (∃ vs, oe.data = .fields vs) ∧ DX F oe.dict fs := by
  unfold excD at e
  split at e
  · rename_i c' r'
    cases e
    generalize q : ((.int 2, .int c) :: r : List (PyData × PyData)) = l at h
    cases h with
    | dk _ _ _ => cases (List.cons.inj q).1
    | dt _ _ _ => cases (List.cons.inj q).1
    | dl _ _ _ => cases (List.cons.inj q).1
    | @exc a C oe φ fs h1 h2 h3 h4 =>
      obtain ⟨q1, q2⟩ := List.cons.inj q
      cases q1
      exact ⟨a, C, oe, φ, fs, rfl, rfl, q2, h1, h2, h3, h4⟩
  · cases e
theorem vw_exc {c : Int} {r : List (PyData × PyData)} (fz : Same F H) (h : Vw K H0 F H v (n, d)) (e : excD d = some (c, r)) : ∃ (a C : Addr) (oe : Obj) (φ : Heap → Prop) (fs : List (Str × Int)), v = .ref a ∧ c = ((C : Nat) : Int) ∧ r = fs.map (fun p => (.str p.1, .int p.2)) ∧ H a = some (.frz oe (.ext φ)) ∧ oe.cls = .ref C ∧ (∃ vs, oe.data = .fields vs) ∧ DX H oe.dict fs := by
  rcases h with h | ⟨_, _, _, _, h, _⟩
  · obtain ⟨a, C, oe, φ, fs, h1, h2, h3, h4, h5, h6, h7⟩ := is_exc h e
    exact ⟨a, C, oe, φ, fs, h1, h2, h3, fz _ _ h4, h5, h6, h7.to fz⟩
  · cases h; cases e
end
section
variable {X : Cx} {W : WX} {e : Expr} {es : List Expr} {pos p : Pos} {f : FE}
/-- isinstance of an error -/
def rIsX (K : PySem.W.Frag) : List V → Hp → VK → Prop := fun xs H Q => ∃ (a C : Addr) (c : V) (cv : Value) (b : Bool) (oe : Obj) (φ : Heap → Prop) (fs : List (Str × Int)), xs = [.ref a, c] ∧ (∀ u, RelV c u → u = cv) ∧ H a = some (.frz oe (.ext φ)) ∧ oe.cls = .ref C ∧ (∃ vs, oe.data = .fields vs) ∧ DX H oe.dict fs ∧
  ErrC K C ∧ PySem.W.kitOne K (.ref C) cv = some b ∧ Q (.bl b) H
theorem look_map {nm : Str} {i : Int} : ∀ {fs : List (Str × Int)}, fs.lookup nm = some i → (fs.map fun p => (p.1, V.int p.2)).lookup nm = some (.int i)
  | [], h => by cases h
  | (k, z) :: fs, h => by
    rw [List.lookup_cons] at h
    rw [List.map_cons, List.lookup_cons]
    cases w : nm == k with
    | true => rw [w] at h; cases h; rfl
    | false => rw [w] at h; exact look_map h
theorem inst_of {pins : List (Addr × Obj)} {σ : St} {H : Hp} {s : Shared} {a C : Addr} {oe : Obj} {φ : Heap → Prop} {fs : List (Str × Int)} (I : L2.Inv X pins σ H s) (h1 : H a = some (.frz oe (.ext φ))) (h2 : oe.cls = .ref C) (h3 : ∃ vs, oe.data = .fields vs) (h4 : DX H oe.dict fs) :
    ∃ od, PySem.W.InstAt s.heap a oe C od ∧ ∀ nm i, fs.lookup nm = some i → ∃ o u, od = some o ∧ PySem.W.lookIn nm o = some (some u) ∧ RelV (.int i) u := by
  obtain ⟨hg, _⟩ := I.hok a _ h1
  have hno : PySem.W.notCls oe = true := by
    obtain ⟨vs, hv⟩ := h3
    unfold PySem.W.notCls; rw [hv] <;> rfl
  cases q : oe.dict with
  | none =>
    rw [q] at h4
    refine ⟨none, ⟨hg, h2, hno, by rw [q]; trivial⟩, fun nm i hl => ?_⟩
    rw [show fs = [] from h4] at hl
    cases hl
  | some dx =>
    rw [q] at h4
    obtain ⟨od, hd⟩ := h4
    obtain ⟨_, ⟨mA, hns, hr⟩, _⟩ := I.hok dx _ hd
    obtain ⟨o, ho, hl⟩ := lookIn_ns hns
    refine ⟨some o, ⟨hg, h2, hno, by rw [q]; exact ho⟩, fun nm i hf => ?_⟩
    have hv := look_map hf
    obtain ⟨u, hu, ru⟩ := RelO.some_of (v := .int i) (o := mA nm) (by rw [← hv]; exact hr nm)
    exact ⟨o, u, rfl, by rw [hl, hu], ru⟩
theorem call_isX : CallR X (.builtin "isinstance") (rIsX X.K) := fun pins s σ H xs us Q I r h => by
  obtain ⟨a, C, c, cv, b, oe, φ, fs, rfl, hcv, h1, h2, h3, h4, T, e, q⟩ := h
  obtain ⟨od, J, _⟩ := inst_of I h1 h2 h3 h4
  cases r with
  | cons rx rr =>
    cases rr with
    | cons rt rr =>
      cases rr
      cases rx
      have ec := hcv _ rt
      subst ec
      exact PySem.W.kia_one (PySem.W.kitx_exc T.cl T.ga T.gg T.su T.ca T.ge T.ta T.ob) I.kIn J e (fun z => nomatch z) fun tk => ⟨.bl b, H, I.kept (t' := tk) fun _ _ z => z, rfl, q⟩
/-- which of the classes: by a table -/
def fIsX (t : List (Addr × Bool)) (f : FV) : FE := fun env => (f env).bind fun q => match excD q.2.2 with
  | some (c, _) => match t.find? fun p => decide (((p.1 : Nat) : Int) = c) with
    | some p => .ok (q.1, .sh true (.bool p.2))
    | none => .bad
  | none => .bad
/-- the table is right -/
def TabOk (K : PySem.W.Frag) (cv : Value) (t : List (Addr × Bool)) : Prop := ∀ p ∈ t, ErrC K p.1 ∧ PySem.W.kitOne K (.ref p.1) cv = some p.2
theorem d_isX {cv : Value} {cV : V} {t : List (Addr × Bool)} {xT : Str} {pT : Pos} (hg : Gl X "isinstance") (hm : X.mg "isinstance" = none) (hv : bootBuiltins "isinstance" = some (.builtin "isinstance")) (hc : PE X (.Name xT pT) (tC cV)) (hcv : ∀ u, RelV cV u → u = cv) (ht : TabOk X.K cv t) (h : DE X W e f)
    (h1 : starEach [e, .Name xT pT] X.env = (false, eval e X.env) :: starEach [.Name xT pT] X.env := by rfl) (h2 : starEach [.Name xT pT] X.env = (false, eval (.Name xT pT) X.env) :: starEach [] X.env := by rfl)
    (hpl : (backTo pos (starEach [.Name xT pT] X.env)).any (·.1) = false := by rfl) : DE X W (.Call (.Name "isinstance" p) [e, .Name xT pT] [] pos) (fIsX t (rd f)) :=
  pe_le (pe_callB call_isX hg hm hv (pa_cons h.v (pa_cons hc pa_nil h2) h1) (by decide) (by decide) h1 hpl) fun σ H Q ⟨H0, F0, F, env, r, q⟩ => by
    refine ⟨H0, F0, F, env, r, ?_⟩
    unfold fIsX at q
    refine Rs.post_mono (Rs.post_bind.mp q) (fun p hp v F1 H1 r1 v1 e1 e2 => ?_) fun _ _ x => x
    obtain ⟨env1, n1, d1⟩ := p
    dsimp only at hp v1 r1
    split at hp
    · rename_i c fr hd
      split at hp
      · rename_i pr hf
        obtain ⟨a, C, oe, φ, fs, rfl, hcC, _, h3, h4, h5, h6⟩ := vw_exc r1.fz v1 hd
        have hmem := List.mem_of_find?_eq_some hf
        have hC : ((pr.1 : Nat) : Int) = c := by simpa using List.find?_some hf
        have hCC : pr.1 = C := by
          have : ((pr.1 : Nat) : Int) = ((C : Nat) : Int) := hC.trans hcC
          exact Int.ofNat.inj this
        obtain ⟨t1, t2⟩ := ht pr hmem
        rw [hCC] at t1 t2
        exact ⟨a, C, cV, cv, pr.2, oe, φ, fs, rfl, hcv, h3, h4, h5, h6, t1, t2, hp _ F1 H1 ⟨r1, .bl _⟩ e1 e2⟩
      · exact hp.elim
    · exact hp.elim
def fldL (nm : Str) : List (PyData × PyData) → Option Int
  | (.str k, .int i) :: r => if nm == k then some i else fldL nm r
  | _ => none
theorem fldL_enc {nm : Str} : ∀ fs : List (Str × Int), fldL nm (fs.map fun p => (.str p.1, .int p.2)) = fs.lookup nm
  | [] => rfl
  | (k, i) :: fs => by
    rw [List.map_cons, List.lookup_cons]
    show (if (nm == k) = true then some i else fldL nm (fs.map fun p => (.str p.1, .int p.2))) = _
    rw [fldL_enc fs]
    cases nm == k <;> rfl
def fErr (cs : List Addr) (nm : Str) (f : FV) : FE := fun env => (f env).bind fun q => match excD q.2.2 with
  | some (c, r) => grd (cs.any fun C => decide (((C : Nat) : Int) = c)) (match fldL nm r with
    | some i => .ok (q.1, .sh true (.int i))
    | none => .bad)
  | none => .bad
theorem d_err {cs : List Addr} {nm : Str} (ht : ∀ C ∈ cs, ErrC X.K C ∧ PySem.W.findIn X.K (.ref C) nm = some none) (h : DE X W e f) (hb : attributeBase e nm X.env (eval e X.env) = eval e X.env := by rfl) : DE X W (.Attribute e nm pos) (fErr cs nm (rd f)) :=
  pe_le (t := fun σ H Q => tV X.K X.mg W (rd f) σ H fun v H1 => ∃ (a C : Addr) (oe : Obj) (φ : Heap → Prop) (fs : List (Str × Int)) (i : Int), v = .ref a ∧ H1 a = some (.frz oe (.ext φ)) ∧ oe.cls = .ref C ∧ (∃ vs, oe.data = .fields vs) ∧ DX H1 oe.dict fs ∧ ErrC X.K C ∧ PySem.W.findIn X.K (.ref C) nm = some none ∧ fs.lookup nm = some i ∧ Q (.int i) H1)
    ⟨fun pins s σ H Q I q => attr_of hb (thn (h.v.run pins s σ H _ I q) fun u s1 ⟨v, H1, I1, r1, a, C, oe, φ, fs, i, ev, h1, h2, h3, h4, T, hno, hl, q1⟩ => by
      subst ev
      obtain rfl : u = Value.ref a := r1
      obtain ⟨od, J, hf⟩ := inst_of I1 h1 h2 h3 h4
      obtain ⟨o, w, e1, e2, rw'⟩ := hf nm i hl
      subst e1
      exact HandSPX.exc_get I1.kIn J T.ga T.gg T.su (PySem.W.findObj_own T.hd hno rfl e2) (handed_of rw') ⟨.int i, H1, I1.tok _, rw', q1⟩)⟩
    fun σ H Q ⟨H0, F0, F, env, r, q⟩ => by
      refine ⟨H0, F0, F, env, r, ?_⟩
      unfold fErr at q
      refine Rs.post_mono (Rs.post_bind.mp q) (fun p hp v F1 H1 r1 v1 e1 e2 => ?_) fun _ _ x => x
      obtain ⟨env1, n1, d1⟩ := p
      dsimp only at hp v1 r1
      split at hp
      · rename_i c fr hd
        obtain ⟨hz, hp⟩ := grd_post hp
        obtain ⟨a, C, oe, φ, fs, rfl, hcC, hfr, h3, h4, h5, h6⟩ := vw_exc r1.fz v1 hd
        obtain ⟨C', hC', hCe⟩ := List.any_eq_true.mp hz
        have hCC : C' = C := Int.ofNat.inj ((of_decide_eq_true hCe).trans hcC)
        subst hCC
        obtain ⟨t1, t2⟩ := ht C' hC'
        rw [hfr, fldL_enc] at hp
        split at hp
        · rename_i i hi
          exact ⟨a, C', oe, φ, fs, i, rfl, h3, h4, h5, h6, t1, t2, hi, hp _ F1 H1 ⟨r1, .int _⟩ e1 e2⟩
        · exact hp.elim
      · exact hp.elim
/-- X(), X without an __init__ of its own -/
def fMk0 (C : Addr) : FE := fun env => .ok (env, .sh true (encX C []))
theorem pe_mk0 {C : Addr} {bmB : List Value} {B newId initId : String} {x : Str} (F : ExcBaseFacts B newId initId bmB) (q : PySem.W.excIn X.K C bmB newId = true) (gC : X.mg x = some (.ref C)) (kC : PySem.W.keepIn X.K (.ref C) = true) (hg : Gl X x) (hdb : (x == ("__debug__" : Str)) = false := by decide) :
    PE X (.Call (.Name x p) [] [] pos) (fun _ H Q => ∀ a oe φ, H a = none → oe.cls = .ref C → oe.dict = none → (∃ vs, oe.data = .fields vs) → Q (.ref a) (upd H a (.frz oe (.ext φ)))) := by
  refine ⟨fun pins s σ H Q I h => wpAny_Call_Name_kw (ld_glob I hg gC (PySem.W.callWith_K0 I.kIn kC ?_) hdb)⟩
  obtain ⟨bm, N, nm, qn, bs, hdct, sn, sub, ab, col, dd, k0, k1, k2, k3, k5, mN, hC, hN, hni, T⟩ := exc_obj I.kIn q
  refine wpAny_call_exc_subT F T hC hN hni (fun h' a hm => ?_) (by show 0 ≤ sizeLine; exact Nat.zero_le _)
  have hn : H a = none := I.hok.gone hm.new
  obtain ⟨t, ht, _, _⟩ := hm.there
  let ob : Obj := { cls := .ref C, data := .fields #[.ref t, .none, .none, .none, .bool false, .none] }
  have ok : ObjOk X.prog X.w (upd H a (.frz ob (exo a C none))) h' a (.frz ob (exo a C none)) := ⟨ht, exo_ok (H := upd H a (.frz ob (exo a C none))) ht⟩
  exact ⟨.ref a, upd H a (.frz ob (exo a C none)), I.laidN hm.keeps hm.new hn ok, rfl, h a ob _ hn rfl rfl ⟨_, rfl⟩⟩
theorem d_mk0 {C : Addr} {bmB : List Value} {B newId initId : String} {x : Str} (F : ExcBaseFacts B newId initId bmB) (q : PySem.W.excIn X.K C bmB newId = true) (gC : X.mg x = some (.ref C)) (kC : PySem.W.keepIn X.K (.ref C) = true) (hg : Gl X x) (hdb : (x == ("__debug__" : Str)) = false := by decide) :
    DE X W (.Call (.Name x p) [] [] pos) (fMk0 C) :=
  pe_le (pe_mk0 F q gC kC hg hdb) fun σ H Q ⟨H0, F0, F, env, r, q⟩ => fun a oe φ hn h1 h2 h3 => by
    have q : ∀ v F' H', RelR X.K H0 F0 env σ F' H' v (.sh true (encX C [])) → Same H H' → Same F F' → Q v H' := q
    have ex := Ext.alloc (o := .frz oe (.ext φ)) r.fz hn
    exact q (.ref a) _ _ ⟨r.ext ex, .exc upd_same h1 h3 (by rw [h2]; rfl)⟩ ex.h ex.f
/-- X(e, ..), X with an __init__ that sets fields -/
def spI (C : Addr) (names : List Str) : Sp := fun vs H Q _ => ∃ (a : Addr) (is : List Int), vs = .ref a :: is.map V.int ∧ is.length = names.length ∧ H a = some (exo a C none) ∧
  ∀ dx H', H dx = none → dx ≠ a → H' a = some (exo a C (some dx)) → H' dx = some (exd dx ((names.zip is).reverse.map fun p => (p.1, V.int p.2))) → (∀ b, b ≠ a → b ≠ dx → H' b = H b) → Q .non H'
def fMkI (C : Addr) (names : List Str) (f : FA) : FE := fun env => (f env).bind fun p => match intsOf (p.2.map fun d => d.2) with
  | some is => grd (decide (is.length = names.length) && decide (is.length ≤ 1000)) (.ok (p.1, .sh true (encX C (names.zip is).reverse)))
  | none => .bad
theorem pe_mkI {CX : CXT} {ta : TA} {x : Str} {C fI : Addr} {k : Nat} {fd : FuncData} {ps : List Str} {sp : Sp} (T : OexC X.K C) (iC : PySem.W.findIn X.K (.ref C) "__init__" = some (some (.ref fI))) (tI : PySem.W.typeIn X.K (.ref fI) = some (.type "function"))
    (F1 : FnOk X.prog X.w X.K X.mg X.base CX k fI fd ps sp) (hr : Room (k + 1) X.A) (hb : Binds X.K fd ps []) (hx : Passes CX X (fun _ _ _ => False)) (hg : Gl X x) (hm : X.mg x = some (.ref C)) (ha : PA X (e :: es) ta)
    (hdb : (x == ("__debug__" : Str)) = false := by decide) (he : starEach (e :: es) X.env = (false, eval e X.env) :: starEach es X.env := by rfl) (hpl : (backTo pos (starEach es X.env)).any (·.1) = false := by rfl) :
    PE X (.Call (.Name x p) (e :: es) [] pos) (fun σ H Q => ta σ H fun vs H1 => vs.length ≤ 1000 ∧ ∀ a, H1 a = none → sp (.ref a :: vs) (upd H1 a (exo a C none)) (fun v H2 => v = .non ∧ Q (.ref a) H2) fun _ _ _ => False) := by
  refine ⟨fun pins s σ H Q I h => wpAny_Call_Name_kw (ld_glob I hg hm ?_ hdb)⟩
  refine PySem.W.callWith_K (h₀ := X.base) I.ok.mod.kin T.kC (thn (ha.run pos pins s σ H _ I h) fun us s1 ⟨vs, H1, I1, rv, hz, q1⟩ => ⟨I1.kIn, ?_⟩) he hpl
  show wpAny _ _ (call (.ref C) us) _ _ _
  obtain ⟨nm, q, N, bs, bm, sn, sub, ab, col, dd, k0, k1, k2, k3, k5, hC, hbm⟩ := T.cls
  obtain ⟨hp, g, dr, tk, os⟩ := s1
  let e0 : Addr := hp.objs.size + 1
  let h2 : Heap := (hp.push (PySem.W.kdv_tup us)).push (PySem.HandSPX.excO C hp.objs.size)
  have q0 := q1 e0 (I1.hok.fresh (Nat.le_succ _))
  have keep : ∀ b o, hp.get? b = some o → h2.get? b = some o := fun b o z => Heap.get?_push_of_some _ (Heap.get?_push_of_some _ z)
  have at0 : h2.get? e0 = some (PySem.HandSPX.excO C hp.objs.size) := by
    show ((hp.push (PySem.W.kdv_tup us)).push (PySem.HandSPX.excO C hp.objs.size)).get? (hp.objs.size + 1) = _
    heap_get
  have J : L2.Inv X pins σ (upd H1 e0 (exo e0 C none)) ⟨h2, g, dr, tk, os⟩ := I1.laid (t' := tk) (a := e0) (o := exo e0 C none) (h' := h2) keep (Nat.le_succ _) (exo_ok at0)
  have rv2 : Vals (V.ref e0 :: vs) (Value.ref e0 :: us) := .cons rfl rv
  have hlen : (Value.ref e0 :: us).length = ps.length := by
    rw [← rv2.length]; exact F1.len _ _ _ _ q0
  have hus : us.length ≤ sizeLine := by
    have := Paired.length rv
    rw [sizeLine_eq]; omega
  have hbi := hb ⟨h2, g, dr, tk, os⟩ (Value.ref e0 :: us) J.kIn (by rw [List.append_nil]; exact hlen)
  rw [List.append_nil] at hbi
  have run := F1.run _ X.stack _ _ ⟨Value.ref e0 :: us, []⟩ _ _ _ (fun _ _ _ => False) (hr.make C us []) (J.env0.make C us []) hbi rv2 q0
  refine wpAny_call (PySem.HandSPX.call_own F.excBase_ValueError (fun Y => PySem.HandSPX.refsVE_contains Y bm hbm) (I1.kIn _ _ hC) (PySem.W.looks_findIn I1.kIn iC) (fun self => PySem.W.bind_fn I1.kIn self tI) hus (codeAny_mono run fun res s3 hres => ?_))
  cases res with
  | error er => exact hx pins σ _ _ er s3 J hres
  | ok fl =>
    cases fl with
    | next => exact hres.elim
    | brk => exact hres.elim
    | cont => exact hres.elim
    | ret u =>
      obtain ⟨v, H3, os3, bare3, un3, hok3, rv3, ev, q3⟩ := hres
      subst ev
      exact ⟨rv3, .ref e0, H3, J.call' (ch := []) os3 un3 hok3 bare3 (fun b z => absurd z (by simp)), rfl, q3⟩
/-- two things locked -/
theorem pe_lock2 {te : TE} (he : PE X e te) : PE X e (fun σ H Q => te σ H fun v H1 => ∃ (a dx : Addr) (C : Addr) (fv : List (Str × V)), v = .ref a ∧ dx ≠ a ∧ H1 a = some (exo a C (some dx)) ∧ H1 dx = some (exd dx fv) ∧ ∀ oe od, oe.cls = .ref C → oe.dict = some dx → (∃ vs, oe.data = .fields vs) → Q v (upd (upd H1 a (.frz oe (exo a C (some dx)))) dx (.frz od (exd dx fv)))) :=
  ⟨fun pins s σ H Q I h => thn (he.run pins s σ H _ I h) fun u s1 ⟨v, H1, I1, rv, a, dx, C, fv, ev, hne, h1, h2, q⟩ => by
    subst ev
    obtain ⟨oe, I2⟩ := I1.lock h1 trivial
    obtain ⟨od, I3⟩ := I2.lock (d := dx) (u := exd dx fv) (by rw [upd_ne hne]; exact h2) trivial
    have h3 : upd (upd H1 a (.frz oe (exo a C (some dx)))) dx (.frz od (exd dx fv)) a = some (.frz oe (exo a C (some dx))) := by rw [upd_ne (Ne.symm hne), upd_same]
    obtain ⟨g1, hx⟩ := I3.hok a _ h3
    obtain ⟨⟨t1, g2⟩, _⟩ := hx
    have ge := g1.symm.trans g2
    cases ge
    exact ⟨.ref a, _, I3, rv, q _ od rfl rfl ⟨_, rfl⟩⟩⟩
theorem ints_map {H0 F : Hp} {K : PySem.W.Frag} {H : Hp} : ∀ {vs : List V} {ps : List Dv} {is : List Int}, All2 (IsV K H0 F H) vs ps → intsOf (ps.map fun d => d.2) = some is → vs = is.map V.int
  | [], [], is, _, e => by cases e; rfl
  | v :: vs, (n, d) :: ps, is, h, e => by
    cases h with
    | cons h t =>
      rw [List.map_cons] at e
      unfold intsOf at e
      split at e
      · rename_i z; cases z
      · rename_i b ds z
        obtain ⟨z1, z2⟩ := List.cons.inj z
        have z1 : d = .int b := z1
        subst z1
        have hv : Is K H0 n F v (.int b) := h
        cases q : intsOf ds with
        | none => rw [q] at e; cases e
        | some cs =>
          rw [q] at e; cases e
          cases hv
          rw [List.map_cons, ints_map t (by rw [z2]; exact q)]
      · cases e
theorem d_mkI {CX : CXT} {fa : FA} {x : Str} {C fI : Addr} {k : Nat} {fd : FuncData} {ps names : List Str} (T : OexC X.K C) (iC : PySem.W.findIn X.K (.ref C) "__init__" = some (some (.ref fI))) (tI : PySem.W.typeIn X.K (.ref fI) = some (.type "function"))
    (F1 : FnOk X.prog X.w X.K X.mg X.base CX k fI fd ps (spI C names)) (hr : Room (k + 1) X.A) (hb : Binds X.K fd ps []) (hx : Passes CX X (fun _ _ _ => False)) (hg : Gl X x) (hm : X.mg x = some (.ref C)) (ha : DAD X W (e :: es) fa)
    (hdb : (x == ("__debug__" : Str)) = false := by decide) (he : starEach (e :: es) X.env = (false, eval e X.env) :: starEach es X.env := by rfl) (hpl : (backTo pos (starEach es X.env)).any (·.1) = false := by rfl) :
    DE X W (.Call (.Name x p) (e :: es) [] pos) (fMkI C names fa) :=
  pe_le (pe_lock2 (pe_mkI T iC tI F1 hr hb hx hg hm ha hdb he hpl)) fun σ H Q ⟨H0, F0, F, env, r, q⟩ => by
    refine ⟨H0, F0, F, env, r, ?_⟩
    unfold fMkI at q
    refine Rs.post_mono (Rs.post_bind.mp q) (fun p hp vs F1 H1 r1 v1 e1 e2 => ?_) fun _ _ x => x
    obtain ⟨env1, ps1⟩ := p
    dsimp only at hp v1 r1
    split at hp
    · rename_i is hi
      obtain ⟨hz, hp⟩ := grd_post hp
      obtain ⟨z1, z2⟩ := Bool.and_eq_true_iff.mp hz
      have z1 := of_decide_eq_true z1
      have z2 := of_decide_eq_true z2
      have hvs := ints_map v1 hi
      refine ⟨by rw [hvs, List.length_map]; exact z2, fun a ha => ⟨a, is, by rw [hvs], z1, upd_same, fun dx H' hd hne h1 h2 h3 => ⟨rfl, a, dx, C, _, rfl, hne, h1, h2, fun oe od g1 g2 g3 => ?_⟩⟩⟩
      have hd1 : H1 dx = none := by rw [upd_ne hne] at hd; exact hd
      have hH : ∀ b, b ≠ a → b ≠ dx → H' b = H1 b := fun b b1 b2 => by rw [h3 b b1 b2, upd_ne b1]
      have ex : Ext F1 H1 (upd (upd F1 a (.frz oe (exo a C (some dx)))) dx (.frz od (exd dx ((names.zip is).reverse.map fun p => (p.1, V.int p.2))))) (upd (upd H' a (.frz oe (exo a C (some dx)))) dx (.frz od (exd dx ((names.zip is).reverse.map fun p => (p.1, V.int p.2))))) := by
        have fa0 : F1 a = none := same_none r1.fz ha
        have fd0 : F1 dx = none := same_none r1.fz hd1
        refine ⟨fun b o z => ?_, fun b o z => ?_, fun b o z => ?_, fun b z => ?_⟩
        · rw [upd_ne (ne_of_none z fd0), upd_ne (ne_of_none z fa0)]; exact z
        · rw [upd_ne (ne_of_none z hd1), upd_ne (ne_of_none z ha), hH b (ne_of_none z ha) (ne_of_none z hd1)]; exact z
        · by_cases y : b = dx
          · subst y; rw [upd_same] at z ⊢; exact z
          · rw [upd_ne y] at z ⊢
            by_cases y2 : b = a
            · subst y2; rw [upd_same] at z ⊢; exact z
            · rw [upd_ne y2] at z ⊢; rw [hH b y2 y]; exact r1.fz _ _ z
        · by_cases y : b = dx
          · subst y; exact .inr hd1
          · rw [upd_ne y] at z
            by_cases y2 : b = a
            · subst y2; exact .inr ha
            · rw [upd_ne y2] at z; exact .inl z
      have hp : ∀ v F' H', RelR X.K H0 F0 env1 σ F' H' v (.sh true (encX C (names.zip is).reverse)) → Same H H' → Same F F' → Q v H' := hp
      refine hp (.ref a) _ _ ⟨r1.ext ex, .exc (by rw [upd_ne (Ne.symm hne), upd_same]; rfl) g1 g3 (by rw [g2]; exact ⟨od, upd_same⟩)⟩ (e1.trans ex.h) (e2.trans ex.f)
    · exact hp.elim
end
section
variable {P : Program} {w : World} {K : PySem.W.Frag} {mg : Str → Option Value} {base : Heap}
theorem init1 {qual : Str} {st : Stmt} {fI C : Addr} {fd : FuncData} {nm : Str} {p1 p2 p3 p4 : Pos} (F : Fun K "__init__" qual st fI fd) (S : FnScope ["self", nm] ["self", nm] (defScope st)) (hbody : defBody st = [.Assign [.Attribute (.Name "self" p1) nm p2] (.Name nm p3) p4]) (T : OexC K C) (hno : PySem.W.findIn K (.ref C) nm = some none)
    (v0 : Vis (defScope st) "self") (v1 : Vis (defScope st) nm) (d1 : (nm == ("__debug__" : Str)) = false := by decide) (d2 : (nm == ("__classdict__" : Str)) = false := by decide) :
    FnOk P w K mg base CX0 1 fI fd ["self", nm] (spI C [nm]) :=
  Fun.ok F S (fun vs H Q E ⟨a, is, h1, h2, _⟩ => by rw [h1, List.length_cons, List.length_map, h2]; rfl) fun cdv A outer s H vs Q E hr ⟨a, is, h1, h2, h3, h4⟩ => by
    obtain ⟨i, rfl⟩ : ∃ i, is = [i] := by
      match is, h2 with
      | [i], _ => exact ⟨i, rfl⟩
    subst h1
    rw [hbody]
    refine ⟨_, pss_one (ps_ost (pe_var (i := 0) rfl v0) (pe_var (i := 1) rfl v1 d1 d2)), ?_⟩
    refine ⟨.int i, rfl, .ref a, rfl, a, C, rfl, T, hno, .inl ⟨h3, fun dx n1 n2 => h4 dx _ n1 n2 upd_same (by rw [upd_ne n2, upd_same]; rfl) fun b b1 b2 => by rw [upd_ne b1, upd_ne b2]⟩⟩
theorem init2 {qual : Str} {st : Stmt} {fI C : Addr} {fd : FuncData} {n1 n2 : Str} {p1 p2 p3 p4 p5 p6 p7 p8 : Pos} (F : Fun K "__init__" qual st fI fd) (S : FnScope ["self", n1, n2] ["self", n1, n2] (defScope st))
    (hbody : defBody st = [.Assign [.Attribute (.Name "self" p1) n1 p2] (.Name n1 p3) p4, .Assign [.Attribute (.Name "self" p5) n2 p6] (.Name n2 p7) p8]) (T : OexC K C) (hno1 : PySem.W.findIn K (.ref C) n1 = some none) (hno2 : PySem.W.findIn K (.ref C) n2 = some none)
    (v0 : Vis (defScope st) "self") (v1 : Vis (defScope st) n1) (v2 : Vis (defScope st) n2) (d1 : (n1 == ("__debug__" : Str)) = false := by decide) (d2 : (n1 == ("__classdict__" : Str)) = false := by decide) (d3 : (n2 == ("__debug__" : Str)) = false := by decide) (d4 : (n2 == ("__classdict__" : Str)) = false := by decide) :
    FnOk P w K mg base CX0 1 fI fd ["self", n1, n2] (spI C [n1, n2]) :=
  Fun.ok F S (fun vs H Q E ⟨a, is, h1, h2, _⟩ => by rw [h1, List.length_cons, List.length_map, h2]; rfl) fun cdv A outer s H vs Q E hr ⟨a, is, h1, h2, h3, h4⟩ => by
    obtain ⟨i, j, rfl⟩ : ∃ i j, is = [i, j] := by
      match is, h2 with
      | [i, j], _ => exact ⟨i, j, rfl⟩
    subst h1
    rw [hbody]
    refine ⟨_, pss_cons (ps_ost (pe_var (i := 0) rfl v0) (pe_var (i := 1) rfl v1 d1 d2)) (pss_one (ps_ost (pe_var (i := 0) rfl v0) (pe_var (i := 2) rfl v2 d3 d4))), ?_⟩
    refine ⟨.int i, rfl, .ref a, rfl, a, C, rfl, T, hno1, .inl ⟨h3, fun dx m1 m2 => ?_⟩⟩
    refine ⟨.int j, rfl, .ref a, rfl, a, C, rfl, T, hno2, .inr ⟨dx, [(n1, .int i)], upd_same, by rw [upd_ne m2, upd_same], (by show 1 ≤ 900; decide), ?_⟩⟩
    exact h4 dx _ m1 m2 (by rw [upd_ne (Ne.symm m2), upd_same]) (by rw [upd_same]; rfl) fun b b1 b2 => by rw [upd_ne b2, upd_ne b1, upd_ne b2]
end
theorem tabOk_n {K : PySem.W.Frag} {cv : Value} : TabOk K cv [] := fun _ h => nomatch h
theorem tabOk_c {K : PySem.W.Frag} {cv : Value} {C : Addr} {b : Bool} {t : List (Addr × Bool)} (h1 : ErrC K C) (h2 : PySem.W.kitOne K (.ref C) cv = some b) (h : TabOk K cv t) : TabOk K cv ((C, b) :: t) := fun p hp => by
  rcases List.mem_cons.mp hp with rfl | hp
  · exact ⟨h1, h2⟩
  · exact h p hp
end Dn
namespace Dn
open PySem PySem.Spec L2
section
variable {β : Type} {h : HX β} {env e : Env} {n m : Bool} {d : PyData} {ds : List PyData} {v : FV} {a : FA} {C A : Addr} {fs : List (Str × Int)} {i j : Int} {b : Bool} {t : List (Addr × Bool)}
@[simp ↓] theorem cE_mk0 {k : Env → R → Rs β} : cE (fMk0 C) env h k = k env (.sh true (encX C [])) := id rfl
def miK (C : Addr) (names : List Str) (ds : List PyData) (k : PyData → Rs β) : Rs β := match intsOf ds with
  | some is => grd (decide (is.length = names.length) && decide (is.length ≤ 1000)) (k (encX C (names.zip is).reverse))
  | none => .bad
@[simp ↓] theorem cE_mkI {names : List Str} {k : Env → R → Rs β} : cE (fMkI C names a) env h k = cA a env h fun e ps => cD ps fun ds => miK C names ds fun d => k e (.sh true d) := by
  unfold cE cA fMkI
  rw [on_bind]
  refine congrArg _ (funext fun p => ?_)
  dsimp only
  rw [cD_eq]
  unfold miK
  cases intsOf (p.2.map fun d => d.2) with
  | none => rfl
  | some is => exact on_grd _ _ _ _
@[simp ↓] theorem miK_1 {x : Str} {k : PyData → Rs β} : miK C [x] [.int i] k = k (encX C [(x, i)]) := id rfl
@[simp ↓] theorem miK_2 {x y : Str} {k : PyData → Rs β} : miK C [x, y] [.int i, .int j] k = k (encX C [(y, j), (x, i)]) := id rfl
def exK (d : PyData) (k : Int → List (PyData × PyData) → Rs β) : Rs β := match excD d with
  | some (c, r) => k c r
  | none => .bad
@[simp ↓] theorem exK_e {k : Int → List (PyData × PyData) → Rs β} : exK (encX C fs) k = k ((C : Nat) : Int) (fs.map fun p => (.str p.1, .int p.2)) := id rfl
def tbK (t : List (Addr × Bool)) (c : Int) (k : Bool → Rs β) : Rs β := match t.find? fun p => decide (((p.1 : Nat) : Int) = c) with
  | some p => k p.2
  | none => .bad
@[simp ↓] theorem tbK_eq {k : Bool → Rs β} : tbK ((C, b) :: t) ((C : Nat) : Int) k = k b := by
  unfold tbK; rw [List.find?_cons_of_pos (by simp)]
@[simp ↓ low] theorem tbK_ne {k : Bool → Rs β} (z : A ≠ C) : tbK ((A, b) :: t) ((C : Nat) : Int) k = tbK t ((C : Nat) : Int) k := by
  unfold tbK; rw [List.find?_cons_of_neg (by simpa using fun x => z (Int.ofNat.inj x))]
@[simp ↓] theorem cE_isX {k : Env → R → Rs β} : cE (fIsX t v) env h k = cV v env h fun e n d => exK d fun c r => tbK t c fun b => k e (.sh true (.bool b)) := by
  unfold cE cV fIsX
  rw [on_bind]
  refine congrArg _ (funext fun p => ?_)
  unfold exK
  dsimp only
  cases excD p.2.2 with
  | none => rfl
  | some q =>
    obtain ⟨c, r⟩ := q
    dsimp only
    unfold tbK
    cases t.find? fun p => decide (((p.1 : Nat) : Int) = c) <;> rfl
def fdK (nm : Str) (r : List (PyData × PyData)) (k : Int → Rs β) : Rs β := match fldL nm r with
  | some i => k i
  | none => .bad
@[simp ↓] theorem fdK_e {nm : Str} {k : Int → Rs β} : fdK nm (fs.map fun p => (.str p.1, .int p.2)) k = match fs.lookup nm with
    | some i => k i
    | none => .bad := by
  unfold fdK; rw [fldL_enc]
@[simp ↓] theorem cE_err {cs : List Addr} {nm : Str} {k : Env → R → Rs β} : cE (fErr cs nm v) env h k = cV v env h fun e n d => exK d fun c r => grd (cs.any fun C => decide (((C : Nat) : Int) = c)) (fdK nm r fun i => k e (.sh true (.int i))) := by
  unfold cE cV fErr
  rw [on_bind]
  refine congrArg _ (funext fun p => ?_)
  unfold exK
  dsimp only
  cases excD p.2.2 with
  | none => rfl
  | some q =>
    obtain ⟨c, r⟩ := q
    dsimp only
    rw [on_grd]
    unfold fdK
    cases fldL nm r <;> rfl
@[simp ↓] theorem atom_encX : atom (encX C fs) = false := id rfl
end
end Dn
namespace Dn
open PySem PySem.Spec L2
structure CT where
  (BadSize BadNumber BadStand BadPlace NoAnswer NotAnswer NoRoad NothingToUndo NothingToRedo BadRoad BadEntry BadCall BadText NearError : Addr)
def tab_BadSize (c : CT) : List (Addr × Bool) := [(c.BadSize, true), (c.BadNumber, false), (c.BadStand, false), (c.BadPlace, false), (c.NoAnswer, false), (c.NotAnswer, false), (c.NoRoad, false), (c.NothingToUndo, false), (c.NothingToRedo, false), (c.BadRoad, false), (c.BadEntry, false), (c.BadCall, false), (c.BadText, false)]
def tab_BadNumber (c : CT) : List (Addr × Bool) := [(c.BadSize, false), (c.BadNumber, true), (c.BadStand, false), (c.BadPlace, false), (c.NoAnswer, false), (c.NotAnswer, false), (c.NoRoad, false), (c.NothingToUndo, false), (c.NothingToRedo, false), (c.BadRoad, false), (c.BadEntry, false), (c.BadCall, false), (c.BadText, false)]
def tab_BadStand (c : CT) : List (Addr × Bool) := [(c.BadSize, false), (c.BadNumber, false), (c.BadStand, true), (c.BadPlace, false), (c.NoAnswer, false), (c.NotAnswer, false), (c.NoRoad, false), (c.NothingToUndo, false), (c.NothingToRedo, false), (c.BadRoad, false), (c.BadEntry, false), (c.BadCall, false), (c.BadText, false)]
def tab_BadPlace (c : CT) : List (Addr × Bool) := [(c.BadSize, false), (c.BadNumber, false), (c.BadStand, false), (c.BadPlace, true), (c.NoAnswer, false), (c.NotAnswer, false), (c.NoRoad, false), (c.NothingToUndo, false), (c.NothingToRedo, false), (c.BadRoad, false), (c.BadEntry, false), (c.BadCall, false), (c.BadText, false)]
def tab_NoAnswer (c : CT) : List (Addr × Bool) := [(c.BadSize, false), (c.BadNumber, false), (c.BadStand, false), (c.BadPlace, false), (c.NoAnswer, true), (c.NotAnswer, false), (c.NoRoad, false), (c.NothingToUndo, false), (c.NothingToRedo, false), (c.BadRoad, false), (c.BadEntry, false), (c.BadCall, false), (c.BadText, false)]
def tab_NotAnswer (c : CT) : List (Addr × Bool) := [(c.BadSize, false), (c.BadNumber, false), (c.BadStand, false), (c.BadPlace, false), (c.NoAnswer, false), (c.NotAnswer, true), (c.NoRoad, false), (c.NothingToUndo, false), (c.NothingToRedo, false), (c.BadRoad, false), (c.BadEntry, false), (c.BadCall, false), (c.BadText, false)]
def tab_NoRoad (c : CT) : List (Addr × Bool) := [(c.BadSize, false), (c.BadNumber, false), (c.BadStand, false), (c.BadPlace, false), (c.NoAnswer, false), (c.NotAnswer, false), (c.NoRoad, true), (c.NothingToUndo, false), (c.NothingToRedo, false), (c.BadRoad, false), (c.BadEntry, false), (c.BadCall, false), (c.BadText, false)]
def tab_NothingToUndo (c : CT) : List (Addr × Bool) := [(c.BadSize, false), (c.BadNumber, false), (c.BadStand, false), (c.BadPlace, false), (c.NoAnswer, false), (c.NotAnswer, false), (c.NoRoad, false), (c.NothingToUndo, true), (c.NothingToRedo, false), (c.BadRoad, false), (c.BadEntry, false), (c.BadCall, false), (c.BadText, false)]
def tab_NothingToRedo (c : CT) : List (Addr × Bool) := [(c.BadSize, false), (c.BadNumber, false), (c.BadStand, false), (c.BadPlace, false), (c.NoAnswer, false), (c.NotAnswer, false), (c.NoRoad, false), (c.NothingToUndo, false), (c.NothingToRedo, true), (c.BadRoad, false), (c.BadEntry, false), (c.BadCall, false), (c.BadText, false)]
def tab_BadRoad (c : CT) : List (Addr × Bool) := [(c.BadSize, false), (c.BadNumber, false), (c.BadStand, false), (c.BadPlace, false), (c.NoAnswer, false), (c.NotAnswer, false), (c.NoRoad, false), (c.NothingToUndo, false), (c.NothingToRedo, false), (c.BadRoad, true), (c.BadEntry, false), (c.BadCall, false), (c.BadText, false)]
def tab_BadEntry (c : CT) : List (Addr × Bool) := [(c.BadSize, false), (c.BadNumber, false), (c.BadStand, false), (c.BadPlace, false), (c.NoAnswer, false), (c.NotAnswer, false), (c.NoRoad, false), (c.NothingToUndo, false), (c.NothingToRedo, false), (c.BadRoad, false), (c.BadEntry, true), (c.BadCall, false), (c.BadText, false)]
def tab_BadCall (c : CT) : List (Addr × Bool) := [(c.BadSize, false), (c.BadNumber, false), (c.BadStand, false), (c.BadPlace, false), (c.NoAnswer, false), (c.NotAnswer, false), (c.NoRoad, false), (c.NothingToUndo, false), (c.NothingToRedo, false), (c.BadRoad, false), (c.BadEntry, false), (c.BadCall, true), (c.BadText, false)]
def tab_BadText (c : CT) : List (Addr × Bool) := [(c.BadSize, false), (c.BadNumber, false), (c.BadStand, false), (c.BadPlace, false), (c.NoAnswer, false), (c.NotAnswer, false), (c.NoRoad, false), (c.NothingToUndo, false), (c.NothingToRedo, false), (c.BadRoad, false), (c.BadEntry, false), (c.BadCall, false), (c.BadText, true)]
def tab_NearError (c : CT) : List (Addr × Bool) := [(c.BadSize, true), (c.BadNumber, true), (c.BadStand, true), (c.BadPlace, true), (c.NoAnswer, true), (c.NotAnswer, true), (c.NoRoad, true), (c.NothingToUndo, true), (c.NothingToRedo, true), (c.BadRoad, true), (c.BadEntry, true), (c.BadCall, true), (c.BadText, true)]
def tab_ValueError (c : CT) : List (Addr × Bool) := [(c.BadSize, true), (c.BadNumber, true), (c.BadStand, true), (c.BadPlace, true), (c.NoAnswer, true), (c.NotAnswer, true), (c.NoRoad, true), (c.NothingToUndo, true), (c.NothingToRedo, true), (c.BadRoad, true), (c.BadEntry, true), (c.BadCall, true), (c.BadText, true)]
def CT.Ok (c : CT) : Prop := [c.BadSize, c.BadNumber, c.BadStand, c.BadPlace, c.NoAnswer, c.NotAnswer, c.NoRoad, c.NothingToUndo, c.NothingToRedo, c.BadRoad, c.BadEntry, c.BadCall, c.BadText].Nodup
end Dn
namespace Dn
open PySem PySem.Spec L2
def e1_law_draws : FE :=
    (fVar 6)
def l1_law_draws : FS :=
    (fFg [4, 5, 7, 8] (fSeq (fSet 5 (fC (.int 0)))
    (fSeq (fIfS (fB (rd (f2 gGt (rd (fB1 (g1 bLen) (fCons (rd (fVar 2)) fNil))) (rd (fC (.int 0)))))) (fSeq (fSet 7 (f2 gMod (rd (fB1 (g1 bInt) (fCons (rd (fVar 4)) fNil))) (rd (fB1 (g1 bLen) (fCons (rd (fVar 2)) fNil)))))
    (fIfS (fB (rd (f2 gGe (rd (f2 gIx (rd (fVar 2)) (rd (fVar 7)))) (rd (f2 gPow (rd (fC (.int 10))) (rd (fC (.int 18)))))))) (fSeq (fSet 5 (f2 gMod (rd (fB1 (g1 bInt) (fCons (rd (f2 gIx (rd (fVar 2)) (rd (fVar 7)))) fNil))) (rd (fC (.int 1000)))))
    (fPutIx 2 (rd (fVar 7)) (st (f2 gFdv (rd (f2 gIx (rd (fVar 2)) (rd (fVar 7)))) (rd (fC (.int 1000))))))) (fSeq (fSet 8 (f2 gMod (rd (fB1 (g1 bInt) (fCons (rd (f2 gAdd (rd (f2 gAdd (rd (f2 gMul (rd (f2 gIx (rd (fVar 2)) (rd (fVar 7)))) (rd (fC (.int 48271))))) (rd (f2 gMul (rd (fVar 4)) (rd (fC (.int 69621))))))) (rd (fC (.int 11))))) fNil))) (rd (fC (.int 2147483647)))))
    (fSeq (fSet 8 (f2 gMod (rd (fB1 (g1 bInt) (fCons (rd (f2 gAdd (rd (f2 gMul (rd (fVar 8)) (rd (fC (.int 16807))))) (rd (fVar 7)))) fNil))) (rd (fC (.int 2147483629)))))
    (fSet 5 (f2 gMod (rd (fB1 (g1 bInt) (fCons (rd (f2 gFdv (rd (fVar 8)) (rd (fC (.int 7))))) fNil))) (rd (fC (.int 1000))))))))) fNext)
    (fApp 3 (st (fVar 5))))))
def b_law_draws : FS :=
    (fSeq (fSet 2 (fLc [6] (fIt (st (fVar 0))) (gN 6) fYes (st e1_law_draws)))
    (fSeq (fSet 3 (fLst fNil))
    (fSeq (fFor (fRg1 (fCons (rd (fVar 1)) fNil)) (gN 4) l1_law_draws)
    (fRet (fVar 3)))))
def S_law_draws : SF := runF 9 2 b_law_draws
end Dn
namespace Dn
open PySem PySem.Spec L2
def b_law_marks (c : CT) : FS :=
    (fSeq (fSet 1 (fLst fNil))
    (fSeq (fSet 1 (f2 gAdd (rd (fVar 1)) (rd (fLst (fCons (st (fIsX (tab_BadSize c) (rd (fVar 0)))) (fCons (st (fIsX (tab_BadNumber c) (rd (fVar 0)))) (fCons (st (fIsX (tab_BadStand c) (rd (fVar 0)))) (fCons (st (fIsX (tab_BadPlace c) (rd (fVar 0)))) fNil))))))))
    (fSeq (fSet 1 (f2 gAdd (rd (fVar 1)) (rd (fLst (fCons (st (fIsX (tab_NoAnswer c) (rd (fVar 0)))) (fCons (st (fIsX (tab_NotAnswer c) (rd (fVar 0)))) (fCons (st (fIsX (tab_NoRoad c) (rd (fVar 0)))) (fCons (st (fIsX (tab_NothingToUndo c) (rd (fVar 0)))) fNil))))))))
    (fSeq (fSet 1 (f2 gAdd (rd (fVar 1)) (rd (fLst (fCons (st (fIsX (tab_NothingToRedo c) (rd (fVar 0)))) (fCons (st (fIsX (tab_BadRoad c) (rd (fVar 0)))) (fCons (st (fIsX (tab_BadEntry c) (rd (fVar 0)))) (fCons (st (fIsX (tab_BadCall c) (rd (fVar 0)))) fNil))))))))
    (fSeq (fSet 1 (f2 gAdd (rd (fVar 1)) (rd (fLst (fCons (st (fIsX (tab_BadText c) (rd (fVar 0)))) fNil)))))
    (fRet (fVar 1)))))))
def S_law_marks (c : CT) : SF := runF 2 1 (b_law_marks c)
end Dn
namespace Dn
open PySem PySem.Spec L2
def e1_law_alone (c : CT) : FE :=
    (f2 (gEqN false) (rd (f2 gIx (rd (fVar 2)) (rd (fVar 3)))) (rd (f2 (gEqN false) (rd (fVar 3)) (rd (fVar 1)))))
def b_law_alone (c : CT) : FS :=
    (fSeq (fIfS (fOr (fNot (fB (rd (fIsX (tab_NearError c) (rd (fVar 0)))))) (fNot (fB (rd (fIsX (tab_ValueError c) (rd (fVar 0))))))) (fRet (fC (.bool false))) fNext)
    (fSeq (fSet 2 (fCall (S_law_marks c) (fCons (st (fVar 0)) fNil)))
    (fRet (fB1 (g1 bAll) (fCons (rd (fLc [3] (fRg1 (fCons (rd (fB1 (g1 bLen) (fCons (rd (fVar 2)) fNil))) fNil)) (gN 3) fYes (st (e1_law_alone c)))) fNil)))))
def S_law_alone (c : CT) : SF := runF 4 2 (b_law_alone c)
end Dn
namespace Dn
open PySem PySem.Spec L2
def b_law_plain_errors (c : CT) : FS :=
    (fSeq (fSet 0 (fLst fNil))
    (fSeq (fSet 0 (f2 gAdd (rd (fVar 0)) (rd (fLst (fCons (st (fCall (S_law_alone c) (fCons (st (fMk0 c.BadSize)) (fCons (st (fC (.int 0))) fNil)))) (fCons (st (fCall (S_law_alone c) (fCons (st (fMk0 c.BadNumber)) (fCons (st (fC (.int 1))) fNil)))) (fCons (st (fCall (S_law_alone c) (fCons (st (fMk0 c.BadStand)) (fCons (st (fC (.int 2))) fNil)))) fNil)))))))
    (fSeq (fSet 0 (f2 gAdd (rd (fVar 0)) (rd (fLst (fCons (st (fCall (S_law_alone c) (fCons (st (fMk0 c.BadPlace)) (fCons (st (fC (.int 3))) fNil)))) (fCons (st (fCall (S_law_alone c) (fCons (st (fMk0 c.NoAnswer)) (fCons (st (fC (.int 4))) fNil)))) (fCons (st (fCall (S_law_alone c) (fCons (st (fMk0 c.NotAnswer)) (fCons (st (fC (.int 5))) fNil)))) fNil)))))))
    (fSeq (fSet 0 (f2 gAdd (rd (fVar 0)) (rd (fLst (fCons (st (fCall (S_law_alone c) (fCons (st (fMk0 c.NoRoad)) (fCons (st (fC (.int 6))) fNil)))) (fCons (st (fCall (S_law_alone c) (fCons (st (fMk0 c.NothingToUndo)) (fCons (st (fC (.int 7))) fNil)))) (fCons (st (fCall (S_law_alone c) (fCons (st (fMk0 c.NothingToRedo)) (fCons (st (fC (.int 8))) fNil)))) fNil)))))))
    (fRet (fB1 (g1 bAll) (fCons (rd (fVar 0)) fNil)))))))
def S_law_plain_errors (c : CT) : SF := runF 1 0 (b_law_plain_errors c)
end Dn
namespace Dn
open PySem PySem.Spec L2
def e1_law_k07 (c : CT) : FE :=
    (fCall (S_law_alone c) (fCons (st (f2 gIx (rd (fVar 2)) (rd (fVar 3)))) (fCons (st (f2 gAdd (rd (fC (.int 9))) (rd (fVar 3)))) fNil)))
def b_law_k07 (c : CT) : FS :=
    (fSeq (fSet 1 (fCall S_law_draws (fCons (st (fVar 0)) (fCons (st (fC (.int 6))) fNil))))
    (fSeq (fSet 2 (fLst (fCons (st (fMkI c.BadRoad ["at"] (fCons (st (fB1 (g1 bInt) (fCons (rd (f2 gIx (rd (fVar 1)) (rd (fC (.int 0))))) fNil))) fNil))) (fCons (st (fMkI c.BadEntry ["at"] (fCons (st (fB1 (g1 bInt) (fCons (rd (f2 gIx (rd (fVar 1)) (rd (fC (.int 1))))) fNil))) fNil))) (fCons (st (fMkI c.BadCall ["at"] (fCons (st (fB1 (g1 bInt) (fCons (rd (f2 gIx (rd (fVar 1)) (rd (fC (.int 2))))) fNil))) fNil))) fNil)))))
    (fSeq (fApp 2 (st (fMkI c.BadText ["line", "column"] (fCons (st (f2 gAdd (rd (fB1 (g1 bInt) (fCons (rd (f2 gIx (rd (fVar 1)) (rd (fC (.int 3))))) fNil))) (rd (fC (.int 1))))) (fCons (st (f2 gAdd (rd (fB1 (g1 bInt) (fCons (rd (f2 gIx (rd (fVar 1)) (rd (fC (.int 4))))) fNil))) (rd (fC (.int 1))))) fNil)))))
    (fSeq (fIfS (fOr (fB (rd (f2 (gEqN true) (rd (fErr [c.BadRoad, c.BadCall, c.BadEntry] "at" (rd (f2 gIx (rd (fVar 2)) (rd (fC (.int 0))))))) (rd (fB1 (g1 bInt) (fCons (rd (f2 gIx (rd (fVar 1)) (rd (fC (.int 0))))) fNil)))))) (fOr (fB (rd (f2 (gEqN true) (rd (fErr [c.BadRoad, c.BadCall, c.BadEntry] "at" (rd (f2 gIx (rd (fVar 2)) (rd (fC (.int 1))))))) (rd (fB1 (g1 bInt) (fCons (rd (f2 gIx (rd (fVar 1)) (rd (fC (.int 1))))) fNil)))))) (fB (rd (f2 (gEqN true) (rd (fErr [c.BadRoad, c.BadCall, c.BadEntry] "at" (rd (f2 gIx (rd (fVar 2)) (rd (fC (.int 2))))))) (rd (fB1 (g1 bInt) (fCons (rd (f2 gIx (rd (fVar 1)) (rd (fC (.int 2))))) fNil)))))))) (fRet (fC (.bool false))) fNext)
    (fSeq (fIfS (fOr (fB (rd (f2 (gEqN true) (rd (fErr [c.BadText] "line" (rd (f2 gIx (rd (fVar 2)) (rd (fC (.int 3))))))) (rd (f2 gAdd (rd (fB1 (g1 bInt) (fCons (rd (f2 gIx (rd (fVar 1)) (rd (fC (.int 3))))) fNil))) (rd (fC (.int 1)))))))) (fB (rd (f2 (gEqN true) (rd (fErr [c.BadText] "column" (rd (f2 gIx (rd (fVar 2)) (rd (fC (.int 3))))))) (rd (f2 gAdd (rd (fB1 (g1 bInt) (fCons (rd (f2 gIx (rd (fVar 1)) (rd (fC (.int 4))))) fNil))) (rd (fC (.int 1))))))))) (fRet (fC (.bool false))) fNext)
    (fSeq (fIfS (fNot (fB (rd (fB1 (g1 bAll) (fCons (rd (fLc [3] (fRg1 (fCons (rd (fC (.int 4))) fNil)) (gN 3) fYes (st (e1_law_k07 c)))) fNil))))) (fRet (fC (.bool false))) fNext)
    (fRet (fCall (S_law_plain_errors c) fNil))))))))
def S_law_k07 (c : CT) : SF := runF 4 1 (b_law_k07 c)
end Dn
namespace Gk07
open PySem PySem.Spec L2 Dn
def topS (i : Nat) : Stmt := PySem.Challenge.pw_evernear_k07_errors_stand_apart.main.body.getD i (.Pass ⟨0, 0, 0, 0⟩)
abbrev s__law_draws : Stmt := topS 16
abbrev N__law_draws : List Str := ["script", "count", "rests", "draws", "k", "value", "cell", "at", "mixed"]
abbrev P__law_draws : List Str := ["script", "count"]
theorem sc__law_draws : FnScope N__law_draws P__law_draws (defScope s__law_draws) := ⟨rfl, rfl, rfl, by decide +kernel, rfl, by decide +kernel, by decide +kernel⟩
abbrev s__law_marks : Stmt := topS 18
abbrev N__law_marks : List Str := ["e", "marks"]
abbrev P__law_marks : List Str := ["e"]
theorem sc__law_marks : FnScope N__law_marks P__law_marks (defScope s__law_marks) := ⟨rfl, rfl, rfl, by decide +kernel, rfl, by decide +kernel, by decide +kernel⟩
abbrev s__law_alone : Stmt := topS 19
abbrev N__law_alone : List Str := ["e", "at", "marks", "k"]
abbrev P__law_alone : List Str := ["e", "at"]
theorem sc__law_alone : FnScope N__law_alone P__law_alone (defScope s__law_alone) := ⟨rfl, rfl, rfl, by decide +kernel, rfl, by decide +kernel, by decide +kernel⟩
abbrev s__law_plain_errors : Stmt := topS 20
abbrev N__law_plain_errors : List Str := ["good"]
abbrev P__law_plain_errors : List Str := []
theorem sc__law_plain_errors : FnScope N__law_plain_errors P__law_plain_errors (defScope s__law_plain_errors) := ⟨rfl, rfl, rfl, by decide +kernel, rfl, by decide +kernel, by decide +kernel⟩
abbrev s_law : Stmt := topS 21
abbrev N_law : List Str := ["script", "draws", "errors", "k"]
abbrev P_law : List Str := ["script"]
theorem sc_law : FnScope N_law P_law (defScope s_law) := ⟨rfl, rfl, rfl, by decide +kernel, rfl, by decide +kernel, by decide +kernel⟩
def sI_BadRoad : Stmt := match topS 3 with | .ClassDef _ _ _ body _ _ _ _ _ _ _ => body.getD 0 (.Pass ⟨0, 0, 0, 0⟩) | _ => .Pass ⟨0, 0, 0, 0⟩
abbrev NI_BadRoad : List Str := ["self", "at"]
theorem scI_BadRoad : FnScope NI_BadRoad NI_BadRoad (defScope sI_BadRoad) := ⟨rfl, rfl, rfl, by decide +kernel, rfl, by decide +kernel, by decide +kernel⟩
def sI_BadEntry : Stmt := match topS 14 with | .ClassDef _ _ _ body _ _ _ _ _ _ _ => body.getD 0 (.Pass ⟨0, 0, 0, 0⟩) | _ => .Pass ⟨0, 0, 0, 0⟩
abbrev NI_BadEntry : List Str := ["self", "at"]
theorem scI_BadEntry : FnScope NI_BadEntry NI_BadEntry (defScope sI_BadEntry) := ⟨rfl, rfl, rfl, by decide +kernel, rfl, by decide +kernel, by decide +kernel⟩
def sI_BadCall : Stmt := match topS 5 with | .ClassDef _ _ _ body _ _ _ _ _ _ _ => body.getD 0 (.Pass ⟨0, 0, 0, 0⟩) | _ => .Pass ⟨0, 0, 0, 0⟩
abbrev NI_BadCall : List Str := ["self", "at"]
theorem scI_BadCall : FnScope NI_BadCall NI_BadCall (defScope sI_BadCall) := ⟨rfl, rfl, rfl, by decide +kernel, rfl, by decide +kernel, by decide +kernel⟩
def sI_BadText : Stmt := match topS 4 with | .ClassDef _ _ _ body _ _ _ _ _ _ _ => body.getD 0 (.Pass ⟨0, 0, 0, 0⟩) | _ => .Pass ⟨0, 0, 0, 0⟩
abbrev NI_BadText : List Str := ["self", "line", "column"]
theorem scI_BadText : FnScope NI_BadText NI_BadText (defScope sI_BadText) := ⟨rfl, rfl, rfl, by decide +kernel, rfl, by decide +kernel, by decide +kernel⟩
/-- what the top has left -/
structure Bn (K : PySem.W.Frag) (mg : Str → Option Value) where
  a__law_draws : Addr
  d__law_draws : FuncData
  F__law_draws : Fun K "_law_draws" "_law_draws" s__law_draws a__law_draws d__law_draws
  g__law_draws : mg "_law_draws" = some (.ref a__law_draws)
  b__law_draws : Binds K d__law_draws P__law_draws []
  a__law_marks : Addr
  d__law_marks : FuncData
  F__law_marks : Fun K "_law_marks" "_law_marks" s__law_marks a__law_marks d__law_marks
  g__law_marks : mg "_law_marks" = some (.ref a__law_marks)
  b__law_marks : Binds K d__law_marks P__law_marks []
  a__law_alone : Addr
  d__law_alone : FuncData
  F__law_alone : Fun K "_law_alone" "_law_alone" s__law_alone a__law_alone d__law_alone
  g__law_alone : mg "_law_alone" = some (.ref a__law_alone)
  b__law_alone : Binds K d__law_alone P__law_alone []
  a__law_plain_errors : Addr
  d__law_plain_errors : FuncData
  F__law_plain_errors : Fun K "_law_plain_errors" "_law_plain_errors" s__law_plain_errors a__law_plain_errors d__law_plain_errors
  g__law_plain_errors : mg "_law_plain_errors" = some (.ref a__law_plain_errors)
  b__law_plain_errors : Binds K d__law_plain_errors P__law_plain_errors []
  a_law : Addr
  d_law : FuncData
  F_law : Fun K "law" "law" s_law a_law d_law
  g_law : mg "law" = some (.ref a_law)
  b_law : Binds K d_law P_law []
  m_range : mg "range" = none
  m_len : mg "len" = none
  m_int : mg "int" = none
  m_isinstance : mg "isinstance" = none
  m_ValueError : mg "ValueError" = none
  m_all : mg "all" = none
  c : CT
  gc_BadSize : mg "BadSize" = some (.ref c.BadSize)
  gc_BadNumber : mg "BadNumber" = some (.ref c.BadNumber)
  gc_BadStand : mg "BadStand" = some (.ref c.BadStand)
  gc_BadPlace : mg "BadPlace" = some (.ref c.BadPlace)
  gc_NoAnswer : mg "NoAnswer" = some (.ref c.NoAnswer)
  gc_NotAnswer : mg "NotAnswer" = some (.ref c.NotAnswer)
  gc_NoRoad : mg "NoRoad" = some (.ref c.NoRoad)
  gc_NothingToUndo : mg "NothingToUndo" = some (.ref c.NothingToUndo)
  gc_NothingToRedo : mg "NothingToRedo" = some (.ref c.NothingToRedo)
  gc_BadRoad : mg "BadRoad" = some (.ref c.BadRoad)
  gc_BadEntry : mg "BadEntry" = some (.ref c.BadEntry)
  gc_BadCall : mg "BadCall" = some (.ref c.BadCall)
  gc_BadText : mg "BadText" = some (.ref c.BadText)
  gc_NearError : mg "NearError" = some (.ref c.NearError)
  e_BadSize : ErrC K c.BadSize
  e_BadNumber : ErrC K c.BadNumber
  e_BadStand : ErrC K c.BadStand
  e_BadPlace : ErrC K c.BadPlace
  e_NoAnswer : ErrC K c.NoAnswer
  e_NotAnswer : ErrC K c.NotAnswer
  e_NoRoad : ErrC K c.NoRoad
  e_NothingToUndo : ErrC K c.NothingToUndo
  e_NothingToRedo : ErrC K c.NothingToRedo
  e_BadRoad : ErrC K c.BadRoad
  e_BadEntry : ErrC K c.BadEntry
  e_BadCall : ErrC K c.BadCall
  e_BadText : ErrC K c.BadText
  t_BadSize : TabOk K (.ref c.BadSize) (tab_BadSize c)
  t_BadNumber : TabOk K (.ref c.BadNumber) (tab_BadNumber c)
  t_BadStand : TabOk K (.ref c.BadStand) (tab_BadStand c)
  t_BadPlace : TabOk K (.ref c.BadPlace) (tab_BadPlace c)
  t_NoAnswer : TabOk K (.ref c.NoAnswer) (tab_NoAnswer c)
  t_NotAnswer : TabOk K (.ref c.NotAnswer) (tab_NotAnswer c)
  t_NoRoad : TabOk K (.ref c.NoRoad) (tab_NoRoad c)
  t_NothingToUndo : TabOk K (.ref c.NothingToUndo) (tab_NothingToUndo c)
  t_NothingToRedo : TabOk K (.ref c.NothingToRedo) (tab_NothingToRedo c)
  t_BadRoad : TabOk K (.ref c.BadRoad) (tab_BadRoad c)
  t_BadEntry : TabOk K (.ref c.BadEntry) (tab_BadEntry c)
  t_BadCall : TabOk K (.ref c.BadCall) (tab_BadCall c)
  t_BadText : TabOk K (.ref c.BadText) (tab_BadText c)
  t_NearError : TabOk K (.ref c.NearError) (tab_NearError c)
  t_ValueError : TabOk K (.type "ValueError") (tab_ValueError c)
  x_BadSize : PySem.W.excIn K c.BadSize [.type "ValueError", .type "Exception", .type "BaseException", .type "object"] "ValueError.__new__" = true
  kc_BadSize : PySem.W.keepIn K (.ref c.BadSize) = true
  x_BadNumber : PySem.W.excIn K c.BadNumber [.type "ValueError", .type "Exception", .type "BaseException", .type "object"] "ValueError.__new__" = true
  kc_BadNumber : PySem.W.keepIn K (.ref c.BadNumber) = true
  x_BadStand : PySem.W.excIn K c.BadStand [.type "ValueError", .type "Exception", .type "BaseException", .type "object"] "ValueError.__new__" = true
  kc_BadStand : PySem.W.keepIn K (.ref c.BadStand) = true
  x_BadPlace : PySem.W.excIn K c.BadPlace [.type "ValueError", .type "Exception", .type "BaseException", .type "object"] "ValueError.__new__" = true
  kc_BadPlace : PySem.W.keepIn K (.ref c.BadPlace) = true
  x_NoAnswer : PySem.W.excIn K c.NoAnswer [.type "ValueError", .type "Exception", .type "BaseException", .type "object"] "ValueError.__new__" = true
  kc_NoAnswer : PySem.W.keepIn K (.ref c.NoAnswer) = true
  x_NotAnswer : PySem.W.excIn K c.NotAnswer [.type "ValueError", .type "Exception", .type "BaseException", .type "object"] "ValueError.__new__" = true
  kc_NotAnswer : PySem.W.keepIn K (.ref c.NotAnswer) = true
  x_NoRoad : PySem.W.excIn K c.NoRoad [.type "ValueError", .type "Exception", .type "BaseException", .type "object"] "ValueError.__new__" = true
  kc_NoRoad : PySem.W.keepIn K (.ref c.NoRoad) = true
  x_NothingToUndo : PySem.W.excIn K c.NothingToUndo [.type "ValueError", .type "Exception", .type "BaseException", .type "object"] "ValueError.__new__" = true
  kc_NothingToUndo : PySem.W.keepIn K (.ref c.NothingToUndo) = true
  x_NothingToRedo : PySem.W.excIn K c.NothingToRedo [.type "ValueError", .type "Exception", .type "BaseException", .type "object"] "ValueError.__new__" = true
  kc_NothingToRedo : PySem.W.keepIn K (.ref c.NothingToRedo) = true
  T_BadRoad : OexC K c.BadRoad
  fI_BadRoad : Addr
  dI_BadRoad : FuncData
  FI_BadRoad : Fun K "__init__" "BadRoad.__init__" sI_BadRoad fI_BadRoad dI_BadRoad
  iC_BadRoad : PySem.W.findIn K (.ref c.BadRoad) "__init__" = some (some (.ref fI_BadRoad))
  tI_BadRoad : PySem.W.typeIn K (.ref fI_BadRoad) = some (.type "function")
  bI_BadRoad : Binds K dI_BadRoad NI_BadRoad []
  no_BadRoad_at : PySem.W.findIn K (.ref c.BadRoad) "at" = some none
  T_BadEntry : OexC K c.BadEntry
  fI_BadEntry : Addr
  dI_BadEntry : FuncData
  FI_BadEntry : Fun K "__init__" "BadEntry.__init__" sI_BadEntry fI_BadEntry dI_BadEntry
  iC_BadEntry : PySem.W.findIn K (.ref c.BadEntry) "__init__" = some (some (.ref fI_BadEntry))
  tI_BadEntry : PySem.W.typeIn K (.ref fI_BadEntry) = some (.type "function")
  bI_BadEntry : Binds K dI_BadEntry NI_BadEntry []
  no_BadEntry_at : PySem.W.findIn K (.ref c.BadEntry) "at" = some none
  T_BadCall : OexC K c.BadCall
  fI_BadCall : Addr
  dI_BadCall : FuncData
  FI_BadCall : Fun K "__init__" "BadCall.__init__" sI_BadCall fI_BadCall dI_BadCall
  iC_BadCall : PySem.W.findIn K (.ref c.BadCall) "__init__" = some (some (.ref fI_BadCall))
  tI_BadCall : PySem.W.typeIn K (.ref fI_BadCall) = some (.type "function")
  bI_BadCall : Binds K dI_BadCall NI_BadCall []
  no_BadCall_at : PySem.W.findIn K (.ref c.BadCall) "at" = some none
  T_BadText : OexC K c.BadText
  fI_BadText : Addr
  dI_BadText : FuncData
  FI_BadText : Fun K "__init__" "BadText.__init__" sI_BadText fI_BadText dI_BadText
  iC_BadText : PySem.W.findIn K (.ref c.BadText) "__init__" = some (some (.ref fI_BadText))
  tI_BadText : PySem.W.typeIn K (.ref fI_BadText) = some (.type "function")
  bI_BadText : Binds K dI_BadText NI_BadText []
  no_BadText_line : PySem.W.findIn K (.ref c.BadText) "line" = some none
  no_BadText_column : PySem.W.findIn K (.ref c.BadText) "column" = some none
theorem Bn.at_at {K : PySem.W.Frag} {mg : Str → Option Value} (B : Bn K mg) : ∀ C ∈ [B.c.BadRoad, B.c.BadCall, B.c.BadEntry], ErrC K C ∧ PySem.W.findIn K (.ref C) "at" = some none := fun C hC => by
  simp only [List.mem_cons, List.not_mem_nil, or_false] at hC
  rcases hC with rfl | rfl | rfl
  · exact ⟨B.e_BadRoad, B.no_BadRoad_at⟩
  · exact ⟨B.e_BadCall, B.no_BadCall_at⟩
  · exact ⟨B.e_BadEntry, B.no_BadEntry_at⟩
theorem Bn.at_line {K : PySem.W.Frag} {mg : Str → Option Value} (B : Bn K mg) : ∀ C ∈ [B.c.BadText], ErrC K C ∧ PySem.W.findIn K (.ref C) "line" = some none := fun C hC => by
  simp only [List.mem_cons, List.not_mem_nil, or_false] at hC
  rcases hC with rfl
  · exact ⟨B.e_BadText, B.no_BadText_line⟩
theorem Bn.at_column {K : PySem.W.Frag} {mg : Str → Option Value} (B : Bn K mg) : ∀ C ∈ [B.c.BadText], ErrC K C ∧ PySem.W.findIn K (.ref C) "column" = some none := fun C hC => by
  simp only [List.mem_cons, List.not_mem_nil, or_false] at hC
  rcases hC with rfl
  · exact ⟨B.e_BadText, B.no_BadText_column⟩
theorem Bn.ok_BadRoad {K : PySem.W.Frag} {mg : Str → Option Value} (B : Bn K mg) (P : Program) (w : World) (base : Heap) : FnOk P w K mg base CX0 1 B.fI_BadRoad B.dI_BadRoad NI_BadRoad (spI B.c.BadRoad ["at"]) :=
  init1 B.FI_BadRoad scI_BadRoad rfl B.T_BadRoad B.no_BadRoad_at (.inl rfl) (.inl rfl)
theorem Bn.ok_BadEntry {K : PySem.W.Frag} {mg : Str → Option Value} (B : Bn K mg) (P : Program) (w : World) (base : Heap) : FnOk P w K mg base CX0 1 B.fI_BadEntry B.dI_BadEntry NI_BadEntry (spI B.c.BadEntry ["at"]) :=
  init1 B.FI_BadEntry scI_BadEntry rfl B.T_BadEntry B.no_BadEntry_at (.inl rfl) (.inl rfl)
theorem Bn.ok_BadCall {K : PySem.W.Frag} {mg : Str → Option Value} (B : Bn K mg) (P : Program) (w : World) (base : Heap) : FnOk P w K mg base CX0 1 B.fI_BadCall B.dI_BadCall NI_BadCall (spI B.c.BadCall ["at"]) :=
  init1 B.FI_BadCall scI_BadCall rfl B.T_BadCall B.no_BadCall_at (.inl rfl) (.inl rfl)
theorem Bn.ok_BadText {K : PySem.W.Frag} {mg : Str → Option Value} (B : Bn K mg) (P : Program) (w : World) (base : Heap) : FnOk P w K mg base CX0 1 B.fI_BadText B.dI_BadText NI_BadText (spI B.c.BadText ["line", "column"]) :=
  init2 B.FI_BadText scI_BadText rfl B.T_BadText B.no_BadText_line B.no_BadText_column (.inl rfl) (.inl rfl) (.inl rfl)
section
variable {P : Program} {w : World} {K : PySem.W.Frag} {mg : Str → Option Value} {base : Heap}
theorem ok__law_draws (B : Bn K mg) : FnG P w K mg base 1 B.a__law_draws B.d__law_draws P__law_draws S_law_draws :=
  fn_d B.F__law_draws sc__law_draws fun cdv A outer s H E hr hg => (ss_cons (s_setLc (own := [("cell", 6)]) 2 rfl sc__law_draws.nd rfl rfl (sw_true rfl rfl rfl (by decide +kernel)) (i_seq (d_var 0)) (blkOk_by (N := N__law_draws) (sc := (defScope s__law_draws)) (by decide +kernel)) (by decide) (fun _ _ _ _ _ => (g_name 6 sc__law_draws.nd)) (fun _ _ _ _ _ => ts_nil) (fun _ _ _ _ _ => (d_var 6)))
      (ss_cons (s_set 3 sc__law_draws.nd (d_lst dad_nil))
      (ss_cons (s_for (passes_of rfl) rfl (i_range1 (by rfl) B.m_range (dav_cons (d_var 1) dav_nil)) (g_name 4 sc__law_draws.nd) gN_no (ss_forget [4, 5, 7, 8] (ss_cons (s_set 5 sc__law_draws.nd d_int)
      (ss_cons (s_if (t_cmp op_gGt gI_no (d_b cr_len (g1_no bLen_no) (by rfl) B.m_len (by decide +kernel) (dav_cons (d_var 2) dav_nil)) d_int (nomark _)) (ss_cons (s_set 7 sc__law_draws.nd (d_op op_gMod gI_no (d_ty cr_int (g1_no bInt_no) (by rfl) B.m_int (by decide +kernel) (dav_cons (d_var 4) dav_nil)) (d_b cr_len (g1_no bLen_no) (by rfl) B.m_len (by decide +kernel) (dav_cons (d_var 2) dav_nil))))
      (ss_one (s_if (t_cmp op_gGe gI_no (d_ix ix_g gIx_no (d_var 2) (d_var 7) (fun _ _ => rfl)) (d_op op_gPow gI_no d_int d_int) (nomark _)) (ss_cons (s_set 5 sc__law_draws.nd (d_op op_gMod gI_no (d_ty cr_int (g1_no bInt_no) (by rfl) B.m_int (by decide +kernel) (dav_cons (d_ix ix_g gIx_no (d_var 2) (d_var 7) (fun _ _ => rfl)) dav_nil)) d_int))
      (ss_one (s_putIx 2 (d_var 7) (d_op op_gFdv gI_no (d_ix ix_g gIx_no (d_var 2) (d_var 7) (fun _ _ => rfl)) d_int)))) (ss_cons (s_set 8 sc__law_draws.nd (d_op op_gMod gI_no (d_ty cr_int (g1_no bInt_no) (by rfl) B.m_int (by decide +kernel) (dav_cons (d_op op_gAdd gAdd_no (d_op op_gAdd gAdd_no (d_op op_gMul gMul_no (d_ix ix_g gIx_no (d_var 2) (d_var 7) (fun _ _ => rfl)) d_int) (d_op op_gMul gMul_no (d_var 4) d_int)) d_int) dav_nil)) d_int))
      (ss_cons (s_set 8 sc__law_draws.nd (d_op op_gMod gI_no (d_ty cr_int (g1_no bInt_no) (by rfl) B.m_int (by decide +kernel) (dav_cons (d_op op_gAdd gAdd_no (d_op op_gMul gMul_no (d_var 8) d_int) (d_var 7)) dav_nil)) d_int))
      (ss_one (s_set 5 sc__law_draws.nd (d_op op_gMod gI_no (d_ty cr_int (g1_no bInt_no) (by rfl) B.m_int (by decide +kernel) (dav_cons (d_op op_gFdv gI_no (d_var 8) d_int) dav_nil)) d_int)))))))) ss_nil)
      (ss_one (s_app 3 (d_var 5)))))))
      (ss_one (s_ret (d_var 3))))))
theorem ok__law_marks (B : Bn K mg) : FnG P w K mg base 3 B.a__law_marks B.d__law_marks P__law_marks (S_law_marks B.c) :=
  fn_d B.F__law_marks sc__law_marks fun cdv A outer s H E hr hg => (ss_cons (s_set 1 sc__law_marks.nd (d_lst dad_nil))
      (ss_cons (s_set 1 sc__law_marks.nd (d_op op_gAdd gAdd_no (d_var 1) (d_lst (dad_cons (d_isX (by rfl) B.m_isinstance (by decide +kernel) (pe_glob (v := .ref B.c.BadSize) (by rfl) B.gc_BadSize rfl) (fun u r => r) B.t_BadSize (d_var 0)) (dad_cons (d_isX (by rfl) B.m_isinstance (by decide +kernel) (pe_glob (v := .ref B.c.BadNumber) (by rfl) B.gc_BadNumber rfl) (fun u r => r) B.t_BadNumber (d_var 0)) (dad_cons (d_isX (by rfl) B.m_isinstance (by decide +kernel) (pe_glob (v := .ref B.c.BadStand) (by rfl) B.gc_BadStand rfl) (fun u r => r) B.t_BadStand (d_var 0)) (dad_cons (d_isX (by rfl) B.m_isinstance (by decide +kernel) (pe_glob (v := .ref B.c.BadPlace) (by rfl) B.gc_BadPlace rfl) (fun u r => r) B.t_BadPlace (d_var 0)) dad_nil)))))))
      (ss_cons (s_set 1 sc__law_marks.nd (d_op op_gAdd gAdd_no (d_var 1) (d_lst (dad_cons (d_isX (by rfl) B.m_isinstance (by decide +kernel) (pe_glob (v := .ref B.c.NoAnswer) (by rfl) B.gc_NoAnswer rfl) (fun u r => r) B.t_NoAnswer (d_var 0)) (dad_cons (d_isX (by rfl) B.m_isinstance (by decide +kernel) (pe_glob (v := .ref B.c.NotAnswer) (by rfl) B.gc_NotAnswer rfl) (fun u r => r) B.t_NotAnswer (d_var 0)) (dad_cons (d_isX (by rfl) B.m_isinstance (by decide +kernel) (pe_glob (v := .ref B.c.NoRoad) (by rfl) B.gc_NoRoad rfl) (fun u r => r) B.t_NoRoad (d_var 0)) (dad_cons (d_isX (by rfl) B.m_isinstance (by decide +kernel) (pe_glob (v := .ref B.c.NothingToUndo) (by rfl) B.gc_NothingToUndo rfl) (fun u r => r) B.t_NothingToUndo (d_var 0)) dad_nil)))))))
      (ss_cons (s_set 1 sc__law_marks.nd (d_op op_gAdd gAdd_no (d_var 1) (d_lst (dad_cons (d_isX (by rfl) B.m_isinstance (by decide +kernel) (pe_glob (v := .ref B.c.NothingToRedo) (by rfl) B.gc_NothingToRedo rfl) (fun u r => r) B.t_NothingToRedo (d_var 0)) (dad_cons (d_isX (by rfl) B.m_isinstance (by decide +kernel) (pe_glob (v := .ref B.c.BadRoad) (by rfl) B.gc_BadRoad rfl) (fun u r => r) B.t_BadRoad (d_var 0)) (dad_cons (d_isX (by rfl) B.m_isinstance (by decide +kernel) (pe_glob (v := .ref B.c.BadEntry) (by rfl) B.gc_BadEntry rfl) (fun u r => r) B.t_BadEntry (d_var 0)) (dad_cons (d_isX (by rfl) B.m_isinstance (by decide +kernel) (pe_glob (v := .ref B.c.BadCall) (by rfl) B.gc_BadCall rfl) (fun u r => r) B.t_BadCall (d_var 0)) dad_nil)))))))
      (ss_cons (s_set 1 sc__law_marks.nd (d_op op_gAdd gAdd_no (d_var 1) (d_lst (dad_cons (d_isX (by rfl) B.m_isinstance (by decide +kernel) (pe_glob (v := .ref B.c.BadText) (by rfl) B.gc_BadText rfl) (fun u r => r) B.t_BadText (d_var 0)) dad_nil))))
      (ss_one (s_ret (d_var 1))))))))
theorem ok__law_alone (B : Bn K mg) : FnG P w K mg base 4 B.a__law_alone B.d__law_alone P__law_alone (S_law_alone B.c) :=
  fn_d B.F__law_alone sc__law_alone fun cdv A outer s H E hr hg => (ss_cons (s_if (DW.t (w_or (t_not (t_val (d_isX (by rfl) B.m_isinstance (by decide +kernel) (pe_glob (v := .ref B.c.NearError) (by rfl) B.gc_NearError rfl) (fun u r => r) B.t_NearError (d_var 0)))) (w_or1 (t_not (t_val (d_isX (by rfl) B.m_isinstance (by decide +kernel) (pe_bltn (v := .ty "ValueError") (by rfl) B.m_ValueError (by decide +kernel) rfl) (fun u r => r) B.t_ValueError (d_var 0))))))) (ss_one (s_ret d_bl)) ss_nil)
      (ss_cons (s_set 2 sc__law_alone.nd (d_call (ok__law_marks B) (hr.mono (by decide)) hg (takes_of rfl rfl rfl rfl : Takes _ (WL E)) (by rfl) B.g__law_marks B.F__law_marks.kp B.b__law_marks (dad_cons (d_var 0) dad_nil)))
      (ss_one (s_ret (d_b (cr_gall rfl) (g1_no bAll_no) (by rfl) B.m_all (by decide +kernel) (dav_cons (d_lc (own := [("k", 3)]) rfl sc__law_alone.nd (i_range1 (by rfl) B.m_range (dav_cons (d_b cr_len (g1_no bLen_no) (by rfl) B.m_len (by decide +kernel) (dav_cons (d_var 2) dav_nil)) dav_nil)) (blkOk_by (N := N__law_alone) (sc := (defScope s__law_alone)) (by decide +kernel)) (by decide) (fun _ _ _ _ _ => (g_name 3 sc__law_alone.nd)) (fun _ _ _ _ _ => ts_nil) (fun _ _ _ _ _ => (d_cmp (op_gEq hr.units) gEqN_no (d_ix ix_g gIx_no (d_var 2) (d_var 3) (fun _ _ => rfl)) (d_cmp (op_gEq hr.units) gEqN_no (d_var 3) (d_var 1) (nomark _)) (nomark _)))) dav_nil))))))
theorem ok__law_plain_errors (B : Bn K mg) : FnG P w K mg base 5 B.a__law_plain_errors B.d__law_plain_errors P__law_plain_errors (S_law_plain_errors B.c) :=
  fn_d B.F__law_plain_errors sc__law_plain_errors fun cdv A outer s H E hr hg => (ss_cons (s_set 0 sc__law_plain_errors.nd (d_lst dad_nil))
      (ss_cons (s_set 0 sc__law_plain_errors.nd (d_op op_gAdd gAdd_no (d_var 0) (d_lst (dad_cons (d_call (ok__law_alone B) (hr.mono (by decide)) hg (takes_of rfl rfl rfl rfl : Takes _ (WL E)) (by rfl) B.g__law_alone B.F__law_alone.kp B.b__law_alone (dad_cons (d_mk0 PySem.F.excBase_ValueError B.x_BadSize B.gc_BadSize B.kc_BadSize (by rfl)) (dad_cons d_int dad_nil))) (dad_cons (d_call (ok__law_alone B) (hr.mono (by decide)) hg (takes_of rfl rfl rfl rfl : Takes _ (WL E)) (by rfl) B.g__law_alone B.F__law_alone.kp B.b__law_alone (dad_cons (d_mk0 PySem.F.excBase_ValueError B.x_BadNumber B.gc_BadNumber B.kc_BadNumber (by rfl)) (dad_cons d_int dad_nil))) (dad_cons (d_call (ok__law_alone B) (hr.mono (by decide)) hg (takes_of rfl rfl rfl rfl : Takes _ (WL E)) (by rfl) B.g__law_alone B.F__law_alone.kp B.b__law_alone (dad_cons (d_mk0 PySem.F.excBase_ValueError B.x_BadStand B.gc_BadStand B.kc_BadStand (by rfl)) (dad_cons d_int dad_nil))) dad_nil))))))
      (ss_cons (s_set 0 sc__law_plain_errors.nd (d_op op_gAdd gAdd_no (d_var 0) (d_lst (dad_cons (d_call (ok__law_alone B) (hr.mono (by decide)) hg (takes_of rfl rfl rfl rfl : Takes _ (WL E)) (by rfl) B.g__law_alone B.F__law_alone.kp B.b__law_alone (dad_cons (d_mk0 PySem.F.excBase_ValueError B.x_BadPlace B.gc_BadPlace B.kc_BadPlace (by rfl)) (dad_cons d_int dad_nil))) (dad_cons (d_call (ok__law_alone B) (hr.mono (by decide)) hg (takes_of rfl rfl rfl rfl : Takes _ (WL E)) (by rfl) B.g__law_alone B.F__law_alone.kp B.b__law_alone (dad_cons (d_mk0 PySem.F.excBase_ValueError B.x_NoAnswer B.gc_NoAnswer B.kc_NoAnswer (by rfl)) (dad_cons d_int dad_nil))) (dad_cons (d_call (ok__law_alone B) (hr.mono (by decide)) hg (takes_of rfl rfl rfl rfl : Takes _ (WL E)) (by rfl) B.g__law_alone B.F__law_alone.kp B.b__law_alone (dad_cons (d_mk0 PySem.F.excBase_ValueError B.x_NotAnswer B.gc_NotAnswer B.kc_NotAnswer (by rfl)) (dad_cons d_int dad_nil))) dad_nil))))))
      (ss_cons (s_set 0 sc__law_plain_errors.nd (d_op op_gAdd gAdd_no (d_var 0) (d_lst (dad_cons (d_call (ok__law_alone B) (hr.mono (by decide)) hg (takes_of rfl rfl rfl rfl : Takes _ (WL E)) (by rfl) B.g__law_alone B.F__law_alone.kp B.b__law_alone (dad_cons (d_mk0 PySem.F.excBase_ValueError B.x_NoRoad B.gc_NoRoad B.kc_NoRoad (by rfl)) (dad_cons d_int dad_nil))) (dad_cons (d_call (ok__law_alone B) (hr.mono (by decide)) hg (takes_of rfl rfl rfl rfl : Takes _ (WL E)) (by rfl) B.g__law_alone B.F__law_alone.kp B.b__law_alone (dad_cons (d_mk0 PySem.F.excBase_ValueError B.x_NothingToUndo B.gc_NothingToUndo B.kc_NothingToUndo (by rfl)) (dad_cons d_int dad_nil))) (dad_cons (d_call (ok__law_alone B) (hr.mono (by decide)) hg (takes_of rfl rfl rfl rfl : Takes _ (WL E)) (by rfl) B.g__law_alone B.F__law_alone.kp B.b__law_alone (dad_cons (d_mk0 PySem.F.excBase_ValueError B.x_NothingToRedo B.gc_NothingToRedo B.kc_NothingToRedo (by rfl)) (dad_cons d_int dad_nil))) dad_nil))))))
      (ss_one (s_ret (d_b (cr_gall rfl) (g1_no bAll_no) (by rfl) B.m_all (by decide +kernel) (dav_cons (d_var 0) dav_nil))))))))
theorem ok_law (B : Bn K mg) : FnG P w K mg base 6 B.a_law B.d_law P_law (S_law_k07 B.c) :=
  fn_d B.F_law sc_law fun cdv A outer s H E hr hg => (ss_cons (s_set 1 sc_law.nd (d_call (ok__law_draws B) (hr.mono (by decide)) hg (takes_of rfl rfl rfl rfl : Takes _ (WL E)) (by rfl) B.g__law_draws B.F__law_draws.kp B.b__law_draws (dad_cons (d_var 0) (dad_cons d_int dad_nil))))
      (ss_cons (s_set 2 sc_law.nd (d_lst (dad_cons (d_mkI B.T_BadRoad B.iC_BadRoad B.tI_BadRoad (B.ok_BadRoad _ _ _) (hr.mono (by decide)) B.bI_BadRoad pass0 (by rfl) B.gc_BadRoad (dad_cons (d_ty cr_int (g1_no bInt_no) (by rfl) B.m_int (by decide +kernel) (dav_cons (d_ix ix_g gIx_no (d_var 1) d_int (fun _ _ => rfl)) dav_nil)) dad_nil)) (dad_cons (d_mkI B.T_BadEntry B.iC_BadEntry B.tI_BadEntry (B.ok_BadEntry _ _ _) (hr.mono (by decide)) B.bI_BadEntry pass0 (by rfl) B.gc_BadEntry (dad_cons (d_ty cr_int (g1_no bInt_no) (by rfl) B.m_int (by decide +kernel) (dav_cons (d_ix ix_g gIx_no (d_var 1) d_int (fun _ _ => rfl)) dav_nil)) dad_nil)) (dad_cons (d_mkI B.T_BadCall B.iC_BadCall B.tI_BadCall (B.ok_BadCall _ _ _) (hr.mono (by decide)) B.bI_BadCall pass0 (by rfl) B.gc_BadCall (dad_cons (d_ty cr_int (g1_no bInt_no) (by rfl) B.m_int (by decide +kernel) (dav_cons (d_ix ix_g gIx_no (d_var 1) d_int (fun _ _ => rfl)) dav_nil)) dad_nil)) dad_nil)))))
      (ss_cons (s_app 2 (d_mkI B.T_BadText B.iC_BadText B.tI_BadText (B.ok_BadText _ _ _) (hr.mono (by decide)) B.bI_BadText pass0 (by rfl) B.gc_BadText (dad_cons (d_op op_gAdd gAdd_no (d_ty cr_int (g1_no bInt_no) (by rfl) B.m_int (by decide +kernel) (dav_cons (d_ix ix_g gIx_no (d_var 1) d_int (fun _ _ => rfl)) dav_nil)) d_int) (dad_cons (d_op op_gAdd gAdd_no (d_ty cr_int (g1_no bInt_no) (by rfl) B.m_int (by decide +kernel) (dav_cons (d_ix ix_g gIx_no (d_var 1) d_int (fun _ _ => rfl)) dav_nil)) d_int) dad_nil))))
      (ss_cons (s_if (DW.t (w_or (t_cmp (op_gNe hr.units) gEqN_no (d_err B.at_at (d_ix ix_g gIx_no (d_var 2) d_int (fun _ _ => rfl))) (d_ty cr_int (g1_no bInt_no) (by rfl) B.m_int (by decide +kernel) (dav_cons (d_ix ix_g gIx_no (d_var 1) d_int (fun _ _ => rfl)) dav_nil)) (nomark _)) (w_or (t_cmp (op_gNe hr.units) gEqN_no (d_err B.at_at (d_ix ix_g gIx_no (d_var 2) d_int (fun _ _ => rfl))) (d_ty cr_int (g1_no bInt_no) (by rfl) B.m_int (by decide +kernel) (dav_cons (d_ix ix_g gIx_no (d_var 1) d_int (fun _ _ => rfl)) dav_nil)) (nomark _)) (w_or1 (t_cmp (op_gNe hr.units) gEqN_no (d_err B.at_at (d_ix ix_g gIx_no (d_var 2) d_int (fun _ _ => rfl))) (d_ty cr_int (g1_no bInt_no) (by rfl) B.m_int (by decide +kernel) (dav_cons (d_ix ix_g gIx_no (d_var 1) d_int (fun _ _ => rfl)) dav_nil)) (nomark _)))))) (ss_one (s_ret d_bl)) ss_nil)
      (ss_cons (s_if (DW.t (w_or (t_cmp (op_gNe hr.units) gEqN_no (d_err B.at_line (d_ix ix_g gIx_no (d_var 2) d_int (fun _ _ => rfl))) (d_op op_gAdd gAdd_no (d_ty cr_int (g1_no bInt_no) (by rfl) B.m_int (by decide +kernel) (dav_cons (d_ix ix_g gIx_no (d_var 1) d_int (fun _ _ => rfl)) dav_nil)) d_int) (nomark _)) (w_or1 (t_cmp (op_gNe hr.units) gEqN_no (d_err B.at_column (d_ix ix_g gIx_no (d_var 2) d_int (fun _ _ => rfl))) (d_op op_gAdd gAdd_no (d_ty cr_int (g1_no bInt_no) (by rfl) B.m_int (by decide +kernel) (dav_cons (d_ix ix_g gIx_no (d_var 1) d_int (fun _ _ => rfl)) dav_nil)) d_int) (nomark _))))) (ss_one (s_ret d_bl)) ss_nil)
      (ss_cons (s_if (t_not (t_val (d_b (cr_gall rfl) (g1_no bAll_no) (by rfl) B.m_all (by decide +kernel) (dav_cons (d_lc (own := [("k", 3)]) rfl sc_law.nd (i_range1 (by rfl) B.m_range (dav_cons d_int dav_nil)) (blkOk_by (N := N_law) (sc := (defScope s_law)) (by decide +kernel)) (by decide) (fun _ _ _ _ _ => (g_name 3 sc_law.nd)) (fun _ _ _ _ _ => ts_nil) (fun _ _ _ _ _ => (d_call (ok__law_alone B) (hr.mono (by decide)) hg takes0 (by rfl) B.g__law_alone B.F__law_alone.kp B.b__law_alone (dad_cons (d_ix ix_g gIx_no (d_var 2) (d_var 3) (fun _ _ => rfl)) (dad_cons (d_op op_gAdd gAdd_no d_int (d_var 3)) dad_nil))))) dav_nil)))) (ss_one (s_ret d_bl)) ss_nil)
      (ss_one (s_ret (d_call0 (ok__law_plain_errors B) (hr.mono (by decide)) hg (takes_of rfl rfl rfl rfl : Takes _ (WL E)) (by rfl) B.g__law_plain_errors B.F__law_plain_errors.kp B.b__law_plain_errors)))))))))
end
def bn_mk {K : PySem.W.Frag} {h : Heap} {mg : Str → Option Value} (X : K.In h) (G : h.Ns mainGlobals mg)
    {f0 : Addr} {od0 an0 : Option Addr} {sl0 : Array (Option Value)} {oc0 kV0 dc0 pm0 cd0 ct0 : Value}
    {f1 : Addr} {od1 an1 : Option Addr} {sl1 : Array (Option Value)} {oc1 kV1 dc1 pm1 cd1 ct1 : Value}
    {f2 : Addr} {od2 an2 : Option Addr} {sl2 : Array (Option Value)} {oc2 kV2 dc2 pm2 cd2 ct2 : Value}
    {f3 : Addr} {od3 an3 : Option Addr} {sl3 : Array (Option Value)} {oc3 kV3 dc3 pm3 cd3 ct3 : Value}
    {f4 : Addr} {od4 an4 : Option Addr} {sl4 : Array (Option Value)} {oc4 kV4 dc4 pm4 cd4 ct4 : Value}
    {C_BadSize : Addr}
    {C_BadNumber : Addr}
    {C_BadStand : Addr}
    {C_BadPlace : Addr}
    {C_NoAnswer : Addr}
    {C_NotAnswer : Addr}
    {C_NoRoad : Addr}
    {C_NothingToUndo : Addr}
    {C_NothingToRedo : Addr}
    {C_BadRoad : Addr}
    {C_BadEntry : Addr}
    {C_BadCall : Addr}
    {C_BadText : Addr}
    {C_NearError : Addr}
    {cd_BadSize : ClassData}
    {cd_BadNumber : ClassData}
    {cd_BadStand : ClassData}
    {cd_BadPlace : ClassData}
    {cd_NoAnswer : ClassData}
    {cd_NotAnswer : ClassData}
    {cd_NoRoad : ClassData}
    {cd_NothingToUndo : ClassData}
    {cd_NothingToRedo : ClassData}
    {cd_BadRoad : ClassData}
    {cd_BadEntry : ClassData}
    {cd_BadCall : ClassData}
    {cd_BadText : ClassData}
    {nm_BadRoad q_BadRoad : Str} {N_BadRoad : Addr} {bs_BadRoad bm_BadRoad sub_BadRoad : List Value} {sn_BadRoad : List Str} {ab_BadRoad : Bool} {col_BadRoad : Option Bool} {dd_BadRoad : Option Addr} {k0_BadRoad k1_BadRoad k2_BadRoad k3_BadRoad k5_BadRoad : Option Value}
    {fI_BadRoad : Addr} {odI_BadRoad anI_BadRoad : Option Addr} {slI_BadRoad : Array (Option Value)} {ocI_BadRoad kVI_BadRoad dcI_BadRoad pmI_BadRoad cdI_BadRoad ctI_BadRoad : Value}
    {nm_BadEntry q_BadEntry : Str} {N_BadEntry : Addr} {bs_BadEntry bm_BadEntry sub_BadEntry : List Value} {sn_BadEntry : List Str} {ab_BadEntry : Bool} {col_BadEntry : Option Bool} {dd_BadEntry : Option Addr} {k0_BadEntry k1_BadEntry k2_BadEntry k3_BadEntry k5_BadEntry : Option Value}
    {fI_BadEntry : Addr} {odI_BadEntry anI_BadEntry : Option Addr} {slI_BadEntry : Array (Option Value)} {ocI_BadEntry kVI_BadEntry dcI_BadEntry pmI_BadEntry cdI_BadEntry ctI_BadEntry : Value}
    {nm_BadCall q_BadCall : Str} {N_BadCall : Addr} {bs_BadCall bm_BadCall sub_BadCall : List Value} {sn_BadCall : List Str} {ab_BadCall : Bool} {col_BadCall : Option Bool} {dd_BadCall : Option Addr} {k0_BadCall k1_BadCall k2_BadCall k3_BadCall k5_BadCall : Option Value}
    {fI_BadCall : Addr} {odI_BadCall anI_BadCall : Option Addr} {slI_BadCall : Array (Option Value)} {ocI_BadCall kVI_BadCall dcI_BadCall pmI_BadCall cdI_BadCall ctI_BadCall : Value}
    {nm_BadText q_BadText : Str} {N_BadText : Addr} {bs_BadText bm_BadText sub_BadText : List Value} {sn_BadText : List Str} {ab_BadText : Bool} {col_BadText : Option Bool} {dd_BadText : Option Addr} {k0_BadText k1_BadText k2_BadText k3_BadText k5_BadText : Option Value}
    {fI_BadText : Addr} {odI_BadText anI_BadText : Option Addr} {slI_BadText : Array (Option Value)} {ocI_BadText kVI_BadText dcI_BadText pmI_BadText cdI_BadText ctI_BadText : Value}
    (a0 : PySem.W.nsIn K mainGlobals "_law_draws" = some (some (.ref f0))) (l0 : K.lookup f0 = some ⟨oc0, od0, .func (PySem.W.fnOf "_law_draws" "_law_draws" (defArgs s__law_draws) (defBody s__law_draws) (defScope s__law_draws) .none kV0 dc0 pm0 an0 cd0 ct0), sl0⟩) (c0 : PySem.W.codeIn K cd0 "_law_draws" = true) (k0 : PySem.W.keepIn K (.ref f0) = true)
    (a1 : PySem.W.nsIn K mainGlobals "_law_marks" = some (some (.ref f1))) (l1 : K.lookup f1 = some ⟨oc1, od1, .func (PySem.W.fnOf "_law_marks" "_law_marks" (defArgs s__law_marks) (defBody s__law_marks) (defScope s__law_marks) .none kV1 dc1 pm1 an1 cd1 ct1), sl1⟩) (c1 : PySem.W.codeIn K cd1 "_law_marks" = true) (k1 : PySem.W.keepIn K (.ref f1) = true)
    (a2 : PySem.W.nsIn K mainGlobals "_law_alone" = some (some (.ref f2))) (l2 : K.lookup f2 = some ⟨oc2, od2, .func (PySem.W.fnOf "_law_alone" "_law_alone" (defArgs s__law_alone) (defBody s__law_alone) (defScope s__law_alone) .none kV2 dc2 pm2 an2 cd2 ct2), sl2⟩) (c2 : PySem.W.codeIn K cd2 "_law_alone" = true) (k2 : PySem.W.keepIn K (.ref f2) = true)
    (a3 : PySem.W.nsIn K mainGlobals "_law_plain_errors" = some (some (.ref f3))) (l3 : K.lookup f3 = some ⟨oc3, od3, .func (PySem.W.fnOf "_law_plain_errors" "_law_plain_errors" (defArgs s__law_plain_errors) (defBody s__law_plain_errors) (defScope s__law_plain_errors) .none kV3 dc3 pm3 an3 cd3 ct3), sl3⟩) (c3 : PySem.W.codeIn K cd3 "_law_plain_errors" = true) (k3 : PySem.W.keepIn K (.ref f3) = true)
    (a4 : PySem.W.nsIn K mainGlobals "law" = some (some (.ref f4))) (l4 : K.lookup f4 = some ⟨oc4, od4, .func (PySem.W.fnOf "law" "law" (defArgs s_law) (defBody s_law) (defScope s_law) .none kV4 dc4 pm4 an4 cd4 ct4), sl4⟩) (c4 : PySem.W.codeIn K cd4 "law" = true) (k4 : PySem.W.keepIn K (.ref f4) = true)
    (ac_BadSize : PySem.W.nsIn K mainGlobals "BadSize" = some (some (.ref C_BadSize)))
    (ac_BadNumber : PySem.W.nsIn K mainGlobals "BadNumber" = some (some (.ref C_BadNumber)))
    (ac_BadStand : PySem.W.nsIn K mainGlobals "BadStand" = some (some (.ref C_BadStand)))
    (ac_BadPlace : PySem.W.nsIn K mainGlobals "BadPlace" = some (some (.ref C_BadPlace)))
    (ac_NoAnswer : PySem.W.nsIn K mainGlobals "NoAnswer" = some (some (.ref C_NoAnswer)))
    (ac_NotAnswer : PySem.W.nsIn K mainGlobals "NotAnswer" = some (some (.ref C_NotAnswer)))
    (ac_NoRoad : PySem.W.nsIn K mainGlobals "NoRoad" = some (some (.ref C_NoRoad)))
    (ac_NothingToUndo : PySem.W.nsIn K mainGlobals "NothingToUndo" = some (some (.ref C_NothingToUndo)))
    (ac_NothingToRedo : PySem.W.nsIn K mainGlobals "NothingToRedo" = some (some (.ref C_NothingToRedo)))
    (ac_BadRoad : PySem.W.nsIn K mainGlobals "BadRoad" = some (some (.ref C_BadRoad)))
    (ac_BadEntry : PySem.W.nsIn K mainGlobals "BadEntry" = some (some (.ref C_BadEntry)))
    (ac_BadCall : PySem.W.nsIn K mainGlobals "BadCall" = some (some (.ref C_BadCall)))
    (ac_BadText : PySem.W.nsIn K mainGlobals "BadText" = some (some (.ref C_BadText)))
    (ac_NearError : PySem.W.nsIn K mainGlobals "NearError" = some (some (.ref C_NearError)))
    (ge : PySem.W.specialIn K (.builtin "object.__class__") "__get__" = some (some (.builtin "getset_descriptor.__get__")))
    (ta : PySem.W.takesIn K (.builtin "object.__class__") = some true)
    (cl_BadSize : PySem.W.clsIn K C_BadSize = some cd_BadSize)
    (ga_BadSize : PySem.W.findIn K (.ref C_BadSize) "__getattribute__" = some (some (.builtin "BaseException.__getattribute__")))
    (gg_BadSize : PySem.W.findIn K (.ref C_BadSize) "__getattr__" = some none)
    (su_BadSize : PySem.W.subIn K (.ref C_BadSize) (.type "BaseException") = some true)
    (ca_BadSize : PySem.W.findIn K (.ref C_BadSize) "__class__" = some (some (.builtin "object.__class__")))
    (ob_BadSize : PySem.W.mroIn K C_BadSize (.type "object") = some true)
    (hd_BadSize : PySem.W.hasDictIn K C_BadSize = true)
    (kc_BadSize : PySem.W.keepIn K (.ref C_BadSize) = true)
    (cl_BadNumber : PySem.W.clsIn K C_BadNumber = some cd_BadNumber)
    (ga_BadNumber : PySem.W.findIn K (.ref C_BadNumber) "__getattribute__" = some (some (.builtin "BaseException.__getattribute__")))
    (gg_BadNumber : PySem.W.findIn K (.ref C_BadNumber) "__getattr__" = some none)
    (su_BadNumber : PySem.W.subIn K (.ref C_BadNumber) (.type "BaseException") = some true)
    (ca_BadNumber : PySem.W.findIn K (.ref C_BadNumber) "__class__" = some (some (.builtin "object.__class__")))
    (ob_BadNumber : PySem.W.mroIn K C_BadNumber (.type "object") = some true)
    (hd_BadNumber : PySem.W.hasDictIn K C_BadNumber = true)
    (kc_BadNumber : PySem.W.keepIn K (.ref C_BadNumber) = true)
    (cl_BadStand : PySem.W.clsIn K C_BadStand = some cd_BadStand)
    (ga_BadStand : PySem.W.findIn K (.ref C_BadStand) "__getattribute__" = some (some (.builtin "BaseException.__getattribute__")))
    (gg_BadStand : PySem.W.findIn K (.ref C_BadStand) "__getattr__" = some none)
    (su_BadStand : PySem.W.subIn K (.ref C_BadStand) (.type "BaseException") = some true)
    (ca_BadStand : PySem.W.findIn K (.ref C_BadStand) "__class__" = some (some (.builtin "object.__class__")))
    (ob_BadStand : PySem.W.mroIn K C_BadStand (.type "object") = some true)
    (hd_BadStand : PySem.W.hasDictIn K C_BadStand = true)
    (kc_BadStand : PySem.W.keepIn K (.ref C_BadStand) = true)
    (cl_BadPlace : PySem.W.clsIn K C_BadPlace = some cd_BadPlace)
    (ga_BadPlace : PySem.W.findIn K (.ref C_BadPlace) "__getattribute__" = some (some (.builtin "BaseException.__getattribute__")))
    (gg_BadPlace : PySem.W.findIn K (.ref C_BadPlace) "__getattr__" = some none)
    (su_BadPlace : PySem.W.subIn K (.ref C_BadPlace) (.type "BaseException") = some true)
    (ca_BadPlace : PySem.W.findIn K (.ref C_BadPlace) "__class__" = some (some (.builtin "object.__class__")))
    (ob_BadPlace : PySem.W.mroIn K C_BadPlace (.type "object") = some true)
    (hd_BadPlace : PySem.W.hasDictIn K C_BadPlace = true)
    (kc_BadPlace : PySem.W.keepIn K (.ref C_BadPlace) = true)
    (cl_NoAnswer : PySem.W.clsIn K C_NoAnswer = some cd_NoAnswer)
    (ga_NoAnswer : PySem.W.findIn K (.ref C_NoAnswer) "__getattribute__" = some (some (.builtin "BaseException.__getattribute__")))
    (gg_NoAnswer : PySem.W.findIn K (.ref C_NoAnswer) "__getattr__" = some none)
    (su_NoAnswer : PySem.W.subIn K (.ref C_NoAnswer) (.type "BaseException") = some true)
    (ca_NoAnswer : PySem.W.findIn K (.ref C_NoAnswer) "__class__" = some (some (.builtin "object.__class__")))
    (ob_NoAnswer : PySem.W.mroIn K C_NoAnswer (.type "object") = some true)
    (hd_NoAnswer : PySem.W.hasDictIn K C_NoAnswer = true)
    (kc_NoAnswer : PySem.W.keepIn K (.ref C_NoAnswer) = true)
    (cl_NotAnswer : PySem.W.clsIn K C_NotAnswer = some cd_NotAnswer)
    (ga_NotAnswer : PySem.W.findIn K (.ref C_NotAnswer) "__getattribute__" = some (some (.builtin "BaseException.__getattribute__")))
    (gg_NotAnswer : PySem.W.findIn K (.ref C_NotAnswer) "__getattr__" = some none)
    (su_NotAnswer : PySem.W.subIn K (.ref C_NotAnswer) (.type "BaseException") = some true)
    (ca_NotAnswer : PySem.W.findIn K (.ref C_NotAnswer) "__class__" = some (some (.builtin "object.__class__")))
    (ob_NotAnswer : PySem.W.mroIn K C_NotAnswer (.type "object") = some true)
    (hd_NotAnswer : PySem.W.hasDictIn K C_NotAnswer = true)
    (kc_NotAnswer : PySem.W.keepIn K (.ref C_NotAnswer) = true)
    (cl_NoRoad : PySem.W.clsIn K C_NoRoad = some cd_NoRoad)
    (ga_NoRoad : PySem.W.findIn K (.ref C_NoRoad) "__getattribute__" = some (some (.builtin "BaseException.__getattribute__")))
    (gg_NoRoad : PySem.W.findIn K (.ref C_NoRoad) "__getattr__" = some none)
    (su_NoRoad : PySem.W.subIn K (.ref C_NoRoad) (.type "BaseException") = some true)
    (ca_NoRoad : PySem.W.findIn K (.ref C_NoRoad) "__class__" = some (some (.builtin "object.__class__")))
    (ob_NoRoad : PySem.W.mroIn K C_NoRoad (.type "object") = some true)
    (hd_NoRoad : PySem.W.hasDictIn K C_NoRoad = true)
    (kc_NoRoad : PySem.W.keepIn K (.ref C_NoRoad) = true)
    (cl_NothingToUndo : PySem.W.clsIn K C_NothingToUndo = some cd_NothingToUndo)
    (ga_NothingToUndo : PySem.W.findIn K (.ref C_NothingToUndo) "__getattribute__" = some (some (.builtin "BaseException.__getattribute__")))
    (gg_NothingToUndo : PySem.W.findIn K (.ref C_NothingToUndo) "__getattr__" = some none)
    (su_NothingToUndo : PySem.W.subIn K (.ref C_NothingToUndo) (.type "BaseException") = some true)
    (ca_NothingToUndo : PySem.W.findIn K (.ref C_NothingToUndo) "__class__" = some (some (.builtin "object.__class__")))
    (ob_NothingToUndo : PySem.W.mroIn K C_NothingToUndo (.type "object") = some true)
    (hd_NothingToUndo : PySem.W.hasDictIn K C_NothingToUndo = true)
    (kc_NothingToUndo : PySem.W.keepIn K (.ref C_NothingToUndo) = true)
    (cl_NothingToRedo : PySem.W.clsIn K C_NothingToRedo = some cd_NothingToRedo)
    (ga_NothingToRedo : PySem.W.findIn K (.ref C_NothingToRedo) "__getattribute__" = some (some (.builtin "BaseException.__getattribute__")))
    (gg_NothingToRedo : PySem.W.findIn K (.ref C_NothingToRedo) "__getattr__" = some none)
    (su_NothingToRedo : PySem.W.subIn K (.ref C_NothingToRedo) (.type "BaseException") = some true)
    (ca_NothingToRedo : PySem.W.findIn K (.ref C_NothingToRedo) "__class__" = some (some (.builtin "object.__class__")))
    (ob_NothingToRedo : PySem.W.mroIn K C_NothingToRedo (.type "object") = some true)
    (hd_NothingToRedo : PySem.W.hasDictIn K C_NothingToRedo = true)
    (kc_NothingToRedo : PySem.W.keepIn K (.ref C_NothingToRedo) = true)
    (cl_BadRoad : PySem.W.clsIn K C_BadRoad = some cd_BadRoad)
    (ga_BadRoad : PySem.W.findIn K (.ref C_BadRoad) "__getattribute__" = some (some (.builtin "BaseException.__getattribute__")))
    (gg_BadRoad : PySem.W.findIn K (.ref C_BadRoad) "__getattr__" = some none)
    (su_BadRoad : PySem.W.subIn K (.ref C_BadRoad) (.type "BaseException") = some true)
    (ca_BadRoad : PySem.W.findIn K (.ref C_BadRoad) "__class__" = some (some (.builtin "object.__class__")))
    (ob_BadRoad : PySem.W.mroIn K C_BadRoad (.type "object") = some true)
    (hd_BadRoad : PySem.W.hasDictIn K C_BadRoad = true)
    (kc_BadRoad : PySem.W.keepIn K (.ref C_BadRoad) = true)
    (cl_BadEntry : PySem.W.clsIn K C_BadEntry = some cd_BadEntry)
    (ga_BadEntry : PySem.W.findIn K (.ref C_BadEntry) "__getattribute__" = some (some (.builtin "BaseException.__getattribute__")))
    (gg_BadEntry : PySem.W.findIn K (.ref C_BadEntry) "__getattr__" = some none)
    (su_BadEntry : PySem.W.subIn K (.ref C_BadEntry) (.type "BaseException") = some true)
    (ca_BadEntry : PySem.W.findIn K (.ref C_BadEntry) "__class__" = some (some (.builtin "object.__class__")))
    (ob_BadEntry : PySem.W.mroIn K C_BadEntry (.type "object") = some true)
    (hd_BadEntry : PySem.W.hasDictIn K C_BadEntry = true)
    (kc_BadEntry : PySem.W.keepIn K (.ref C_BadEntry) = true)
    (cl_BadCall : PySem.W.clsIn K C_BadCall = some cd_BadCall)
    (ga_BadCall : PySem.W.findIn K (.ref C_BadCall) "__getattribute__" = some (some (.builtin "BaseException.__getattribute__")))
    (gg_BadCall : PySem.W.findIn K (.ref C_BadCall) "__getattr__" = some none)
    (su_BadCall : PySem.W.subIn K (.ref C_BadCall) (.type "BaseException") = some true)
    (ca_BadCall : PySem.W.findIn K (.ref C_BadCall) "__class__" = some (some (.builtin "object.__class__")))
    (ob_BadCall : PySem.W.mroIn K C_BadCall (.type "object") = some true)
    (hd_BadCall : PySem.W.hasDictIn K C_BadCall = true)
    (kc_BadCall : PySem.W.keepIn K (.ref C_BadCall) = true)
    (cl_BadText : PySem.W.clsIn K C_BadText = some cd_BadText)
    (ga_BadText : PySem.W.findIn K (.ref C_BadText) "__getattribute__" = some (some (.builtin "BaseException.__getattribute__")))
    (gg_BadText : PySem.W.findIn K (.ref C_BadText) "__getattr__" = some none)
    (su_BadText : PySem.W.subIn K (.ref C_BadText) (.type "BaseException") = some true)
    (ca_BadText : PySem.W.findIn K (.ref C_BadText) "__class__" = some (some (.builtin "object.__class__")))
    (ob_BadText : PySem.W.mroIn K C_BadText (.type "object") = some true)
    (hd_BadText : PySem.W.hasDictIn K C_BadText = true)
    (kc_BadText : PySem.W.keepIn K (.ref C_BadText) = true)
    (k_BadSize_BadSize : PySem.W.kitOne K (.ref C_BadSize) (.ref C_BadSize) = some true)
    (k_BadSize_BadNumber : PySem.W.kitOne K (.ref C_BadNumber) (.ref C_BadSize) = some false)
    (k_BadSize_BadStand : PySem.W.kitOne K (.ref C_BadStand) (.ref C_BadSize) = some false)
    (k_BadSize_BadPlace : PySem.W.kitOne K (.ref C_BadPlace) (.ref C_BadSize) = some false)
    (k_BadSize_NoAnswer : PySem.W.kitOne K (.ref C_NoAnswer) (.ref C_BadSize) = some false)
    (k_BadSize_NotAnswer : PySem.W.kitOne K (.ref C_NotAnswer) (.ref C_BadSize) = some false)
    (k_BadSize_NoRoad : PySem.W.kitOne K (.ref C_NoRoad) (.ref C_BadSize) = some false)
    (k_BadSize_NothingToUndo : PySem.W.kitOne K (.ref C_NothingToUndo) (.ref C_BadSize) = some false)
    (k_BadSize_NothingToRedo : PySem.W.kitOne K (.ref C_NothingToRedo) (.ref C_BadSize) = some false)
    (k_BadSize_BadRoad : PySem.W.kitOne K (.ref C_BadRoad) (.ref C_BadSize) = some false)
    (k_BadSize_BadEntry : PySem.W.kitOne K (.ref C_BadEntry) (.ref C_BadSize) = some false)
    (k_BadSize_BadCall : PySem.W.kitOne K (.ref C_BadCall) (.ref C_BadSize) = some false)
    (k_BadSize_BadText : PySem.W.kitOne K (.ref C_BadText) (.ref C_BadSize) = some false)
    (k_BadNumber_BadSize : PySem.W.kitOne K (.ref C_BadSize) (.ref C_BadNumber) = some false)
    (k_BadNumber_BadNumber : PySem.W.kitOne K (.ref C_BadNumber) (.ref C_BadNumber) = some true)
    (k_BadNumber_BadStand : PySem.W.kitOne K (.ref C_BadStand) (.ref C_BadNumber) = some false)
    (k_BadNumber_BadPlace : PySem.W.kitOne K (.ref C_BadPlace) (.ref C_BadNumber) = some false)
    (k_BadNumber_NoAnswer : PySem.W.kitOne K (.ref C_NoAnswer) (.ref C_BadNumber) = some false)
    (k_BadNumber_NotAnswer : PySem.W.kitOne K (.ref C_NotAnswer) (.ref C_BadNumber) = some false)
    (k_BadNumber_NoRoad : PySem.W.kitOne K (.ref C_NoRoad) (.ref C_BadNumber) = some false)
    (k_BadNumber_NothingToUndo : PySem.W.kitOne K (.ref C_NothingToUndo) (.ref C_BadNumber) = some false)
    (k_BadNumber_NothingToRedo : PySem.W.kitOne K (.ref C_NothingToRedo) (.ref C_BadNumber) = some false)
    (k_BadNumber_BadRoad : PySem.W.kitOne K (.ref C_BadRoad) (.ref C_BadNumber) = some false)
    (k_BadNumber_BadEntry : PySem.W.kitOne K (.ref C_BadEntry) (.ref C_BadNumber) = some false)
    (k_BadNumber_BadCall : PySem.W.kitOne K (.ref C_BadCall) (.ref C_BadNumber) = some false)
    (k_BadNumber_BadText : PySem.W.kitOne K (.ref C_BadText) (.ref C_BadNumber) = some false)
    (k_BadStand_BadSize : PySem.W.kitOne K (.ref C_BadSize) (.ref C_BadStand) = some false)
    (k_BadStand_BadNumber : PySem.W.kitOne K (.ref C_BadNumber) (.ref C_BadStand) = some false)
    (k_BadStand_BadStand : PySem.W.kitOne K (.ref C_BadStand) (.ref C_BadStand) = some true)
    (k_BadStand_BadPlace : PySem.W.kitOne K (.ref C_BadPlace) (.ref C_BadStand) = some false)
    (k_BadStand_NoAnswer : PySem.W.kitOne K (.ref C_NoAnswer) (.ref C_BadStand) = some false)
    (k_BadStand_NotAnswer : PySem.W.kitOne K (.ref C_NotAnswer) (.ref C_BadStand) = some false)
    (k_BadStand_NoRoad : PySem.W.kitOne K (.ref C_NoRoad) (.ref C_BadStand) = some false)
    (k_BadStand_NothingToUndo : PySem.W.kitOne K (.ref C_NothingToUndo) (.ref C_BadStand) = some false)
    (k_BadStand_NothingToRedo : PySem.W.kitOne K (.ref C_NothingToRedo) (.ref C_BadStand) = some false)
    (k_BadStand_BadRoad : PySem.W.kitOne K (.ref C_BadRoad) (.ref C_BadStand) = some false)
    (k_BadStand_BadEntry : PySem.W.kitOne K (.ref C_BadEntry) (.ref C_BadStand) = some false)
    (k_BadStand_BadCall : PySem.W.kitOne K (.ref C_BadCall) (.ref C_BadStand) = some false)
    (k_BadStand_BadText : PySem.W.kitOne K (.ref C_BadText) (.ref C_BadStand) = some false)
    (k_BadPlace_BadSize : PySem.W.kitOne K (.ref C_BadSize) (.ref C_BadPlace) = some false)
    (k_BadPlace_BadNumber : PySem.W.kitOne K (.ref C_BadNumber) (.ref C_BadPlace) = some false)
    (k_BadPlace_BadStand : PySem.W.kitOne K (.ref C_BadStand) (.ref C_BadPlace) = some false)
    (k_BadPlace_BadPlace : PySem.W.kitOne K (.ref C_BadPlace) (.ref C_BadPlace) = some true)
    (k_BadPlace_NoAnswer : PySem.W.kitOne K (.ref C_NoAnswer) (.ref C_BadPlace) = some false)
    (k_BadPlace_NotAnswer : PySem.W.kitOne K (.ref C_NotAnswer) (.ref C_BadPlace) = some false)
    (k_BadPlace_NoRoad : PySem.W.kitOne K (.ref C_NoRoad) (.ref C_BadPlace) = some false)
    (k_BadPlace_NothingToUndo : PySem.W.kitOne K (.ref C_NothingToUndo) (.ref C_BadPlace) = some false)
    (k_BadPlace_NothingToRedo : PySem.W.kitOne K (.ref C_NothingToRedo) (.ref C_BadPlace) = some false)
    (k_BadPlace_BadRoad : PySem.W.kitOne K (.ref C_BadRoad) (.ref C_BadPlace) = some false)
    (k_BadPlace_BadEntry : PySem.W.kitOne K (.ref C_BadEntry) (.ref C_BadPlace) = some false)
    (k_BadPlace_BadCall : PySem.W.kitOne K (.ref C_BadCall) (.ref C_BadPlace) = some false)
    (k_BadPlace_BadText : PySem.W.kitOne K (.ref C_BadText) (.ref C_BadPlace) = some false)
    (k_NoAnswer_BadSize : PySem.W.kitOne K (.ref C_BadSize) (.ref C_NoAnswer) = some false)
    (k_NoAnswer_BadNumber : PySem.W.kitOne K (.ref C_BadNumber) (.ref C_NoAnswer) = some false)
    (k_NoAnswer_BadStand : PySem.W.kitOne K (.ref C_BadStand) (.ref C_NoAnswer) = some false)
    (k_NoAnswer_BadPlace : PySem.W.kitOne K (.ref C_BadPlace) (.ref C_NoAnswer) = some false)
    (k_NoAnswer_NoAnswer : PySem.W.kitOne K (.ref C_NoAnswer) (.ref C_NoAnswer) = some true)
    (k_NoAnswer_NotAnswer : PySem.W.kitOne K (.ref C_NotAnswer) (.ref C_NoAnswer) = some false)
    (k_NoAnswer_NoRoad : PySem.W.kitOne K (.ref C_NoRoad) (.ref C_NoAnswer) = some false)
    (k_NoAnswer_NothingToUndo : PySem.W.kitOne K (.ref C_NothingToUndo) (.ref C_NoAnswer) = some false)
    (k_NoAnswer_NothingToRedo : PySem.W.kitOne K (.ref C_NothingToRedo) (.ref C_NoAnswer) = some false)
    (k_NoAnswer_BadRoad : PySem.W.kitOne K (.ref C_BadRoad) (.ref C_NoAnswer) = some false)
    (k_NoAnswer_BadEntry : PySem.W.kitOne K (.ref C_BadEntry) (.ref C_NoAnswer) = some false)
    (k_NoAnswer_BadCall : PySem.W.kitOne K (.ref C_BadCall) (.ref C_NoAnswer) = some false)
    (k_NoAnswer_BadText : PySem.W.kitOne K (.ref C_BadText) (.ref C_NoAnswer) = some false)
    (k_NotAnswer_BadSize : PySem.W.kitOne K (.ref C_BadSize) (.ref C_NotAnswer) = some false)
    (k_NotAnswer_BadNumber : PySem.W.kitOne K (.ref C_BadNumber) (.ref C_NotAnswer) = some false)
    (k_NotAnswer_BadStand : PySem.W.kitOne K (.ref C_BadStand) (.ref C_NotAnswer) = some false)
    (k_NotAnswer_BadPlace : PySem.W.kitOne K (.ref C_BadPlace) (.ref C_NotAnswer) = some false)
    (k_NotAnswer_NoAnswer : PySem.W.kitOne K (.ref C_NoAnswer) (.ref C_NotAnswer) = some false)
    (k_NotAnswer_NotAnswer : PySem.W.kitOne K (.ref C_NotAnswer) (.ref C_NotAnswer) = some true)
    (k_NotAnswer_NoRoad : PySem.W.kitOne K (.ref C_NoRoad) (.ref C_NotAnswer) = some false)
    (k_NotAnswer_NothingToUndo : PySem.W.kitOne K (.ref C_NothingToUndo) (.ref C_NotAnswer) = some false)
    (k_NotAnswer_NothingToRedo : PySem.W.kitOne K (.ref C_NothingToRedo) (.ref C_NotAnswer) = some false)
    (k_NotAnswer_BadRoad : PySem.W.kitOne K (.ref C_BadRoad) (.ref C_NotAnswer) = some false)
    (k_NotAnswer_BadEntry : PySem.W.kitOne K (.ref C_BadEntry) (.ref C_NotAnswer) = some false)
    (k_NotAnswer_BadCall : PySem.W.kitOne K (.ref C_BadCall) (.ref C_NotAnswer) = some false)
    (k_NotAnswer_BadText : PySem.W.kitOne K (.ref C_BadText) (.ref C_NotAnswer) = some false)
    (k_NoRoad_BadSize : PySem.W.kitOne K (.ref C_BadSize) (.ref C_NoRoad) = some false)
    (k_NoRoad_BadNumber : PySem.W.kitOne K (.ref C_BadNumber) (.ref C_NoRoad) = some false)
    (k_NoRoad_BadStand : PySem.W.kitOne K (.ref C_BadStand) (.ref C_NoRoad) = some false)
    (k_NoRoad_BadPlace : PySem.W.kitOne K (.ref C_BadPlace) (.ref C_NoRoad) = some false)
    (k_NoRoad_NoAnswer : PySem.W.kitOne K (.ref C_NoAnswer) (.ref C_NoRoad) = some false)
    (k_NoRoad_NotAnswer : PySem.W.kitOne K (.ref C_NotAnswer) (.ref C_NoRoad) = some false)
    (k_NoRoad_NoRoad : PySem.W.kitOne K (.ref C_NoRoad) (.ref C_NoRoad) = some true)
    (k_NoRoad_NothingToUndo : PySem.W.kitOne K (.ref C_NothingToUndo) (.ref C_NoRoad) = some false)
    (k_NoRoad_NothingToRedo : PySem.W.kitOne K (.ref C_NothingToRedo) (.ref C_NoRoad) = some false)
    (k_NoRoad_BadRoad : PySem.W.kitOne K (.ref C_BadRoad) (.ref C_NoRoad) = some false)
    (k_NoRoad_BadEntry : PySem.W.kitOne K (.ref C_BadEntry) (.ref C_NoRoad) = some false)
    (k_NoRoad_BadCall : PySem.W.kitOne K (.ref C_BadCall) (.ref C_NoRoad) = some false)
    (k_NoRoad_BadText : PySem.W.kitOne K (.ref C_BadText) (.ref C_NoRoad) = some false)
    (k_NothingToUndo_BadSize : PySem.W.kitOne K (.ref C_BadSize) (.ref C_NothingToUndo) = some false)
    (k_NothingToUndo_BadNumber : PySem.W.kitOne K (.ref C_BadNumber) (.ref C_NothingToUndo) = some false)
    (k_NothingToUndo_BadStand : PySem.W.kitOne K (.ref C_BadStand) (.ref C_NothingToUndo) = some false)
    (k_NothingToUndo_BadPlace : PySem.W.kitOne K (.ref C_BadPlace) (.ref C_NothingToUndo) = some false)
    (k_NothingToUndo_NoAnswer : PySem.W.kitOne K (.ref C_NoAnswer) (.ref C_NothingToUndo) = some false)
    (k_NothingToUndo_NotAnswer : PySem.W.kitOne K (.ref C_NotAnswer) (.ref C_NothingToUndo) = some false)
    (k_NothingToUndo_NoRoad : PySem.W.kitOne K (.ref C_NoRoad) (.ref C_NothingToUndo) = some false)
    (k_NothingToUndo_NothingToUndo : PySem.W.kitOne K (.ref C_NothingToUndo) (.ref C_NothingToUndo) = some true)
    (k_NothingToUndo_NothingToRedo : PySem.W.kitOne K (.ref C_NothingToRedo) (.ref C_NothingToUndo) = some false)
    (k_NothingToUndo_BadRoad : PySem.W.kitOne K (.ref C_BadRoad) (.ref C_NothingToUndo) = some false)
    (k_NothingToUndo_BadEntry : PySem.W.kitOne K (.ref C_BadEntry) (.ref C_NothingToUndo) = some false)
    (k_NothingToUndo_BadCall : PySem.W.kitOne K (.ref C_BadCall) (.ref C_NothingToUndo) = some false)
    (k_NothingToUndo_BadText : PySem.W.kitOne K (.ref C_BadText) (.ref C_NothingToUndo) = some false)
    (k_NothingToRedo_BadSize : PySem.W.kitOne K (.ref C_BadSize) (.ref C_NothingToRedo) = some false)
    (k_NothingToRedo_BadNumber : PySem.W.kitOne K (.ref C_BadNumber) (.ref C_NothingToRedo) = some false)
    (k_NothingToRedo_BadStand : PySem.W.kitOne K (.ref C_BadStand) (.ref C_NothingToRedo) = some false)
    (k_NothingToRedo_BadPlace : PySem.W.kitOne K (.ref C_BadPlace) (.ref C_NothingToRedo) = some false)
    (k_NothingToRedo_NoAnswer : PySem.W.kitOne K (.ref C_NoAnswer) (.ref C_NothingToRedo) = some false)
    (k_NothingToRedo_NotAnswer : PySem.W.kitOne K (.ref C_NotAnswer) (.ref C_NothingToRedo) = some false)
    (k_NothingToRedo_NoRoad : PySem.W.kitOne K (.ref C_NoRoad) (.ref C_NothingToRedo) = some false)
    (k_NothingToRedo_NothingToUndo : PySem.W.kitOne K (.ref C_NothingToUndo) (.ref C_NothingToRedo) = some false)
    (k_NothingToRedo_NothingToRedo : PySem.W.kitOne K (.ref C_NothingToRedo) (.ref C_NothingToRedo) = some true)
    (k_NothingToRedo_BadRoad : PySem.W.kitOne K (.ref C_BadRoad) (.ref C_NothingToRedo) = some false)
    (k_NothingToRedo_BadEntry : PySem.W.kitOne K (.ref C_BadEntry) (.ref C_NothingToRedo) = some false)
    (k_NothingToRedo_BadCall : PySem.W.kitOne K (.ref C_BadCall) (.ref C_NothingToRedo) = some false)
    (k_NothingToRedo_BadText : PySem.W.kitOne K (.ref C_BadText) (.ref C_NothingToRedo) = some false)
    (k_BadRoad_BadSize : PySem.W.kitOne K (.ref C_BadSize) (.ref C_BadRoad) = some false)
    (k_BadRoad_BadNumber : PySem.W.kitOne K (.ref C_BadNumber) (.ref C_BadRoad) = some false)
    (k_BadRoad_BadStand : PySem.W.kitOne K (.ref C_BadStand) (.ref C_BadRoad) = some false)
    (k_BadRoad_BadPlace : PySem.W.kitOne K (.ref C_BadPlace) (.ref C_BadRoad) = some false)
    (k_BadRoad_NoAnswer : PySem.W.kitOne K (.ref C_NoAnswer) (.ref C_BadRoad) = some false)
    (k_BadRoad_NotAnswer : PySem.W.kitOne K (.ref C_NotAnswer) (.ref C_BadRoad) = some false)
    (k_BadRoad_NoRoad : PySem.W.kitOne K (.ref C_NoRoad) (.ref C_BadRoad) = some false)
    (k_BadRoad_NothingToUndo : PySem.W.kitOne K (.ref C_NothingToUndo) (.ref C_BadRoad) = some false)
    (k_BadRoad_NothingToRedo : PySem.W.kitOne K (.ref C_NothingToRedo) (.ref C_BadRoad) = some false)
    (k_BadRoad_BadRoad : PySem.W.kitOne K (.ref C_BadRoad) (.ref C_BadRoad) = some true)
    (k_BadRoad_BadEntry : PySem.W.kitOne K (.ref C_BadEntry) (.ref C_BadRoad) = some false)
    (k_BadRoad_BadCall : PySem.W.kitOne K (.ref C_BadCall) (.ref C_BadRoad) = some false)
    (k_BadRoad_BadText : PySem.W.kitOne K (.ref C_BadText) (.ref C_BadRoad) = some false)
    (k_BadEntry_BadSize : PySem.W.kitOne K (.ref C_BadSize) (.ref C_BadEntry) = some false)
    (k_BadEntry_BadNumber : PySem.W.kitOne K (.ref C_BadNumber) (.ref C_BadEntry) = some false)
    (k_BadEntry_BadStand : PySem.W.kitOne K (.ref C_BadStand) (.ref C_BadEntry) = some false)
    (k_BadEntry_BadPlace : PySem.W.kitOne K (.ref C_BadPlace) (.ref C_BadEntry) = some false)
    (k_BadEntry_NoAnswer : PySem.W.kitOne K (.ref C_NoAnswer) (.ref C_BadEntry) = some false)
    (k_BadEntry_NotAnswer : PySem.W.kitOne K (.ref C_NotAnswer) (.ref C_BadEntry) = some false)
    (k_BadEntry_NoRoad : PySem.W.kitOne K (.ref C_NoRoad) (.ref C_BadEntry) = some false)
    (k_BadEntry_NothingToUndo : PySem.W.kitOne K (.ref C_NothingToUndo) (.ref C_BadEntry) = some false)
    (k_BadEntry_NothingToRedo : PySem.W.kitOne K (.ref C_NothingToRedo) (.ref C_BadEntry) = some false)
    (k_BadEntry_BadRoad : PySem.W.kitOne K (.ref C_BadRoad) (.ref C_BadEntry) = some false)
    (k_BadEntry_BadEntry : PySem.W.kitOne K (.ref C_BadEntry) (.ref C_BadEntry) = some true)
    (k_BadEntry_BadCall : PySem.W.kitOne K (.ref C_BadCall) (.ref C_BadEntry) = some false)
    (k_BadEntry_BadText : PySem.W.kitOne K (.ref C_BadText) (.ref C_BadEntry) = some false)
    (k_BadCall_BadSize : PySem.W.kitOne K (.ref C_BadSize) (.ref C_BadCall) = some false)
    (k_BadCall_BadNumber : PySem.W.kitOne K (.ref C_BadNumber) (.ref C_BadCall) = some false)
    (k_BadCall_BadStand : PySem.W.kitOne K (.ref C_BadStand) (.ref C_BadCall) = some false)
    (k_BadCall_BadPlace : PySem.W.kitOne K (.ref C_BadPlace) (.ref C_BadCall) = some false)
    (k_BadCall_NoAnswer : PySem.W.kitOne K (.ref C_NoAnswer) (.ref C_BadCall) = some false)
    (k_BadCall_NotAnswer : PySem.W.kitOne K (.ref C_NotAnswer) (.ref C_BadCall) = some false)
    (k_BadCall_NoRoad : PySem.W.kitOne K (.ref C_NoRoad) (.ref C_BadCall) = some false)
    (k_BadCall_NothingToUndo : PySem.W.kitOne K (.ref C_NothingToUndo) (.ref C_BadCall) = some false)
    (k_BadCall_NothingToRedo : PySem.W.kitOne K (.ref C_NothingToRedo) (.ref C_BadCall) = some false)
    (k_BadCall_BadRoad : PySem.W.kitOne K (.ref C_BadRoad) (.ref C_BadCall) = some false)
    (k_BadCall_BadEntry : PySem.W.kitOne K (.ref C_BadEntry) (.ref C_BadCall) = some false)
    (k_BadCall_BadCall : PySem.W.kitOne K (.ref C_BadCall) (.ref C_BadCall) = some true)
    (k_BadCall_BadText : PySem.W.kitOne K (.ref C_BadText) (.ref C_BadCall) = some false)
    (k_BadText_BadSize : PySem.W.kitOne K (.ref C_BadSize) (.ref C_BadText) = some false)
    (k_BadText_BadNumber : PySem.W.kitOne K (.ref C_BadNumber) (.ref C_BadText) = some false)
    (k_BadText_BadStand : PySem.W.kitOne K (.ref C_BadStand) (.ref C_BadText) = some false)
    (k_BadText_BadPlace : PySem.W.kitOne K (.ref C_BadPlace) (.ref C_BadText) = some false)
    (k_BadText_NoAnswer : PySem.W.kitOne K (.ref C_NoAnswer) (.ref C_BadText) = some false)
    (k_BadText_NotAnswer : PySem.W.kitOne K (.ref C_NotAnswer) (.ref C_BadText) = some false)
    (k_BadText_NoRoad : PySem.W.kitOne K (.ref C_NoRoad) (.ref C_BadText) = some false)
    (k_BadText_NothingToUndo : PySem.W.kitOne K (.ref C_NothingToUndo) (.ref C_BadText) = some false)
    (k_BadText_NothingToRedo : PySem.W.kitOne K (.ref C_NothingToRedo) (.ref C_BadText) = some false)
    (k_BadText_BadRoad : PySem.W.kitOne K (.ref C_BadRoad) (.ref C_BadText) = some false)
    (k_BadText_BadEntry : PySem.W.kitOne K (.ref C_BadEntry) (.ref C_BadText) = some false)
    (k_BadText_BadCall : PySem.W.kitOne K (.ref C_BadCall) (.ref C_BadText) = some false)
    (k_BadText_BadText : PySem.W.kitOne K (.ref C_BadText) (.ref C_BadText) = some true)
    (k_NearError_BadSize : PySem.W.kitOne K (.ref C_BadSize) (.ref C_NearError) = some true)
    (k_NearError_BadNumber : PySem.W.kitOne K (.ref C_BadNumber) (.ref C_NearError) = some true)
    (k_NearError_BadStand : PySem.W.kitOne K (.ref C_BadStand) (.ref C_NearError) = some true)
    (k_NearError_BadPlace : PySem.W.kitOne K (.ref C_BadPlace) (.ref C_NearError) = some true)
    (k_NearError_NoAnswer : PySem.W.kitOne K (.ref C_NoAnswer) (.ref C_NearError) = some true)
    (k_NearError_NotAnswer : PySem.W.kitOne K (.ref C_NotAnswer) (.ref C_NearError) = some true)
    (k_NearError_NoRoad : PySem.W.kitOne K (.ref C_NoRoad) (.ref C_NearError) = some true)
    (k_NearError_NothingToUndo : PySem.W.kitOne K (.ref C_NothingToUndo) (.ref C_NearError) = some true)
    (k_NearError_NothingToRedo : PySem.W.kitOne K (.ref C_NothingToRedo) (.ref C_NearError) = some true)
    (k_NearError_BadRoad : PySem.W.kitOne K (.ref C_BadRoad) (.ref C_NearError) = some true)
    (k_NearError_BadEntry : PySem.W.kitOne K (.ref C_BadEntry) (.ref C_NearError) = some true)
    (k_NearError_BadCall : PySem.W.kitOne K (.ref C_BadCall) (.ref C_NearError) = some true)
    (k_NearError_BadText : PySem.W.kitOne K (.ref C_BadText) (.ref C_NearError) = some true)
    (k_ValueError_BadSize : PySem.W.kitOne K (.ref C_BadSize) (.type "ValueError") = some true)
    (k_ValueError_BadNumber : PySem.W.kitOne K (.ref C_BadNumber) (.type "ValueError") = some true)
    (k_ValueError_BadStand : PySem.W.kitOne K (.ref C_BadStand) (.type "ValueError") = some true)
    (k_ValueError_BadPlace : PySem.W.kitOne K (.ref C_BadPlace) (.type "ValueError") = some true)
    (k_ValueError_NoAnswer : PySem.W.kitOne K (.ref C_NoAnswer) (.type "ValueError") = some true)
    (k_ValueError_NotAnswer : PySem.W.kitOne K (.ref C_NotAnswer) (.type "ValueError") = some true)
    (k_ValueError_NoRoad : PySem.W.kitOne K (.ref C_NoRoad) (.type "ValueError") = some true)
    (k_ValueError_NothingToUndo : PySem.W.kitOne K (.ref C_NothingToUndo) (.type "ValueError") = some true)
    (k_ValueError_NothingToRedo : PySem.W.kitOne K (.ref C_NothingToRedo) (.type "ValueError") = some true)
    (k_ValueError_BadRoad : PySem.W.kitOne K (.ref C_BadRoad) (.type "ValueError") = some true)
    (k_ValueError_BadEntry : PySem.W.kitOne K (.ref C_BadEntry) (.type "ValueError") = some true)
    (k_ValueError_BadCall : PySem.W.kitOne K (.ref C_BadCall) (.type "ValueError") = some true)
    (k_ValueError_BadText : PySem.W.kitOne K (.ref C_BadText) (.type "ValueError") = some true)
    (x_BadSize : PySem.W.excIn K C_BadSize [.type "ValueError", .type "Exception", .type "BaseException", .type "object"] "ValueError.__new__" = true)
    (x_BadNumber : PySem.W.excIn K C_BadNumber [.type "ValueError", .type "Exception", .type "BaseException", .type "object"] "ValueError.__new__" = true)
    (x_BadStand : PySem.W.excIn K C_BadStand [.type "ValueError", .type "Exception", .type "BaseException", .type "object"] "ValueError.__new__" = true)
    (x_BadPlace : PySem.W.excIn K C_BadPlace [.type "ValueError", .type "Exception", .type "BaseException", .type "object"] "ValueError.__new__" = true)
    (x_NoAnswer : PySem.W.excIn K C_NoAnswer [.type "ValueError", .type "Exception", .type "BaseException", .type "object"] "ValueError.__new__" = true)
    (x_NotAnswer : PySem.W.excIn K C_NotAnswer [.type "ValueError", .type "Exception", .type "BaseException", .type "object"] "ValueError.__new__" = true)
    (x_NoRoad : PySem.W.excIn K C_NoRoad [.type "ValueError", .type "Exception", .type "BaseException", .type "object"] "ValueError.__new__" = true)
    (x_NothingToUndo : PySem.W.excIn K C_NothingToUndo [.type "ValueError", .type "Exception", .type "BaseException", .type "object"] "ValueError.__new__" = true)
    (x_NothingToRedo : PySem.W.excIn K C_NothingToRedo [.type "ValueError", .type "Exception", .type "BaseException", .type "object"] "ValueError.__new__" = true)
    (xl_BadRoad : K.lookup C_BadRoad = some (excClassObj nm_BadRoad q_BadRoad C_BadRoad N_BadRoad bs_BadRoad bm_BadRoad true sn_BadRoad sub_BadRoad ab_BadRoad col_BadRoad dd_BadRoad k0_BadRoad k1_BadRoad k2_BadRoad k3_BadRoad k5_BadRoad "ValueError.__new__"))
    (rv_BadRoad : PySem.HandSPX.refsVE bm_BadRoad = true)
    (sa_BadRoad : PySem.W.findIn K (.ref C_BadRoad) "__setattr__" = some (some (.builtin "object.__setattr__")))
    (ty_BadRoad : PySem.W.typeIn K (.ref C_BadRoad) = some (.type "type"))
    (iC_BadRoad : PySem.W.findIn K (.ref C_BadRoad) "__init__" = some (some (.ref fI_BadRoad)))
    (tI_BadRoad : PySem.W.typeIn K (.ref fI_BadRoad) = some (.type "function"))
    (lI_BadRoad : K.lookup fI_BadRoad = some ⟨ocI_BadRoad, odI_BadRoad, .func (PySem.W.fnOf "__init__" "BadRoad.__init__" (defArgs sI_BadRoad) (defBody sI_BadRoad) (defScope sI_BadRoad) .none kVI_BadRoad dcI_BadRoad pmI_BadRoad anI_BadRoad cdI_BadRoad ctI_BadRoad), slI_BadRoad⟩)
    (cI_BadRoad : PySem.W.codeIn K cdI_BadRoad "BadRoad.__init__" = true)
    (kI_BadRoad : PySem.W.keepIn K (.ref fI_BadRoad) = true)
    (no_BadRoad_at : PySem.W.findIn K (.ref C_BadRoad) "at" = some none)
    (xl_BadEntry : K.lookup C_BadEntry = some (excClassObj nm_BadEntry q_BadEntry C_BadEntry N_BadEntry bs_BadEntry bm_BadEntry true sn_BadEntry sub_BadEntry ab_BadEntry col_BadEntry dd_BadEntry k0_BadEntry k1_BadEntry k2_BadEntry k3_BadEntry k5_BadEntry "ValueError.__new__"))
    (rv_BadEntry : PySem.HandSPX.refsVE bm_BadEntry = true)
    (sa_BadEntry : PySem.W.findIn K (.ref C_BadEntry) "__setattr__" = some (some (.builtin "object.__setattr__")))
    (ty_BadEntry : PySem.W.typeIn K (.ref C_BadEntry) = some (.type "type"))
    (iC_BadEntry : PySem.W.findIn K (.ref C_BadEntry) "__init__" = some (some (.ref fI_BadEntry)))
    (tI_BadEntry : PySem.W.typeIn K (.ref fI_BadEntry) = some (.type "function"))
    (lI_BadEntry : K.lookup fI_BadEntry = some ⟨ocI_BadEntry, odI_BadEntry, .func (PySem.W.fnOf "__init__" "BadEntry.__init__" (defArgs sI_BadEntry) (defBody sI_BadEntry) (defScope sI_BadEntry) .none kVI_BadEntry dcI_BadEntry pmI_BadEntry anI_BadEntry cdI_BadEntry ctI_BadEntry), slI_BadEntry⟩)
    (cI_BadEntry : PySem.W.codeIn K cdI_BadEntry "BadEntry.__init__" = true)
    (kI_BadEntry : PySem.W.keepIn K (.ref fI_BadEntry) = true)
    (no_BadEntry_at : PySem.W.findIn K (.ref C_BadEntry) "at" = some none)
    (xl_BadCall : K.lookup C_BadCall = some (excClassObj nm_BadCall q_BadCall C_BadCall N_BadCall bs_BadCall bm_BadCall true sn_BadCall sub_BadCall ab_BadCall col_BadCall dd_BadCall k0_BadCall k1_BadCall k2_BadCall k3_BadCall k5_BadCall "ValueError.__new__"))
    (rv_BadCall : PySem.HandSPX.refsVE bm_BadCall = true)
    (sa_BadCall : PySem.W.findIn K (.ref C_BadCall) "__setattr__" = some (some (.builtin "object.__setattr__")))
    (ty_BadCall : PySem.W.typeIn K (.ref C_BadCall) = some (.type "type"))
    (iC_BadCall : PySem.W.findIn K (.ref C_BadCall) "__init__" = some (some (.ref fI_BadCall)))
    (tI_BadCall : PySem.W.typeIn K (.ref fI_BadCall) = some (.type "function"))
    (lI_BadCall : K.lookup fI_BadCall = some ⟨ocI_BadCall, odI_BadCall, .func (PySem.W.fnOf "__init__" "BadCall.__init__" (defArgs sI_BadCall) (defBody sI_BadCall) (defScope sI_BadCall) .none kVI_BadCall dcI_BadCall pmI_BadCall anI_BadCall cdI_BadCall ctI_BadCall), slI_BadCall⟩)
    (cI_BadCall : PySem.W.codeIn K cdI_BadCall "BadCall.__init__" = true)
    (kI_BadCall : PySem.W.keepIn K (.ref fI_BadCall) = true)
    (no_BadCall_at : PySem.W.findIn K (.ref C_BadCall) "at" = some none)
    (xl_BadText : K.lookup C_BadText = some (excClassObj nm_BadText q_BadText C_BadText N_BadText bs_BadText bm_BadText true sn_BadText sub_BadText ab_BadText col_BadText dd_BadText k0_BadText k1_BadText k2_BadText k3_BadText k5_BadText "ValueError.__new__"))
    (rv_BadText : PySem.HandSPX.refsVE bm_BadText = true)
    (sa_BadText : PySem.W.findIn K (.ref C_BadText) "__setattr__" = some (some (.builtin "object.__setattr__")))
    (ty_BadText : PySem.W.typeIn K (.ref C_BadText) = some (.type "type"))
    (iC_BadText : PySem.W.findIn K (.ref C_BadText) "__init__" = some (some (.ref fI_BadText)))
    (tI_BadText : PySem.W.typeIn K (.ref fI_BadText) = some (.type "function"))
    (lI_BadText : K.lookup fI_BadText = some ⟨ocI_BadText, odI_BadText, .func (PySem.W.fnOf "__init__" "BadText.__init__" (defArgs sI_BadText) (defBody sI_BadText) (defScope sI_BadText) .none kVI_BadText dcI_BadText pmI_BadText anI_BadText cdI_BadText ctI_BadText), slI_BadText⟩)
    (cI_BadText : PySem.W.codeIn K cdI_BadText "BadText.__init__" = true)
    (kI_BadText : PySem.W.keepIn K (.ref fI_BadText) = true)
    (no_BadText_line : PySem.W.findIn K (.ref C_BadText) "line" = some none)
    (no_BadText_column : PySem.W.findIn K (.ref C_BadText) "column" = some none)
    (z0 : PySem.W.nsIn K mainGlobals "range" = some none) (z1 : PySem.W.nsIn K mainGlobals "len" = some none) (z2 : PySem.W.nsIn K mainGlobals "int" = some none) (z3 : PySem.W.nsIn K mainGlobals "isinstance" = some none) (z4 : PySem.W.nsIn K mainGlobals "ValueError" = some none) (z5 : PySem.W.nsIn K mainGlobals "all" = some none) : Bn K mg :=
  have ee_BadSize : ErrC K C_BadSize := ⟨by rw [cl_BadSize]; rfl, ga_BadSize, gg_BadSize, su_BadSize, ca_BadSize, ge, ta, ob_BadSize, hd_BadSize⟩
  have ee_BadNumber : ErrC K C_BadNumber := ⟨by rw [cl_BadNumber]; rfl, ga_BadNumber, gg_BadNumber, su_BadNumber, ca_BadNumber, ge, ta, ob_BadNumber, hd_BadNumber⟩
  have ee_BadStand : ErrC K C_BadStand := ⟨by rw [cl_BadStand]; rfl, ga_BadStand, gg_BadStand, su_BadStand, ca_BadStand, ge, ta, ob_BadStand, hd_BadStand⟩
  have ee_BadPlace : ErrC K C_BadPlace := ⟨by rw [cl_BadPlace]; rfl, ga_BadPlace, gg_BadPlace, su_BadPlace, ca_BadPlace, ge, ta, ob_BadPlace, hd_BadPlace⟩
  have ee_NoAnswer : ErrC K C_NoAnswer := ⟨by rw [cl_NoAnswer]; rfl, ga_NoAnswer, gg_NoAnswer, su_NoAnswer, ca_NoAnswer, ge, ta, ob_NoAnswer, hd_NoAnswer⟩
  have ee_NotAnswer : ErrC K C_NotAnswer := ⟨by rw [cl_NotAnswer]; rfl, ga_NotAnswer, gg_NotAnswer, su_NotAnswer, ca_NotAnswer, ge, ta, ob_NotAnswer, hd_NotAnswer⟩
  have ee_NoRoad : ErrC K C_NoRoad := ⟨by rw [cl_NoRoad]; rfl, ga_NoRoad, gg_NoRoad, su_NoRoad, ca_NoRoad, ge, ta, ob_NoRoad, hd_NoRoad⟩
  have ee_NothingToUndo : ErrC K C_NothingToUndo := ⟨by rw [cl_NothingToUndo]; rfl, ga_NothingToUndo, gg_NothingToUndo, su_NothingToUndo, ca_NothingToUndo, ge, ta, ob_NothingToUndo, hd_NothingToUndo⟩
  have ee_NothingToRedo : ErrC K C_NothingToRedo := ⟨by rw [cl_NothingToRedo]; rfl, ga_NothingToRedo, gg_NothingToRedo, su_NothingToRedo, ca_NothingToRedo, ge, ta, ob_NothingToRedo, hd_NothingToRedo⟩
  have ee_BadRoad : ErrC K C_BadRoad := ⟨by rw [cl_BadRoad]; rfl, ga_BadRoad, gg_BadRoad, su_BadRoad, ca_BadRoad, ge, ta, ob_BadRoad, hd_BadRoad⟩
  have ee_BadEntry : ErrC K C_BadEntry := ⟨by rw [cl_BadEntry]; rfl, ga_BadEntry, gg_BadEntry, su_BadEntry, ca_BadEntry, ge, ta, ob_BadEntry, hd_BadEntry⟩
  have ee_BadCall : ErrC K C_BadCall := ⟨by rw [cl_BadCall]; rfl, ga_BadCall, gg_BadCall, su_BadCall, ca_BadCall, ge, ta, ob_BadCall, hd_BadCall⟩
  have ee_BadText : ErrC K C_BadText := ⟨by rw [cl_BadText]; rfl, ga_BadText, gg_BadText, su_BadText, ca_BadText, ge, ta, ob_BadText, hd_BadText⟩
  {
  a__law_draws := f0
  d__law_draws := PySem.W.fnOf "_law_draws" "_law_draws" (defArgs s__law_draws) (defBody s__law_draws) (defScope s__law_draws) .none kV0 dc0 pm0 an0 cd0 ct0
  F__law_draws := fun_mk (st := s__law_draws) l0 c0 k0
  g__law_draws := PySem.W.mg_of X G a0
  b__law_draws := (fun_mk (st := s__law_draws) l0 c0 k0).binds fun _ _ _ _ _ _ us hl => match us, hl with | [_, _], _ => rfl
  a__law_marks := f1
  d__law_marks := PySem.W.fnOf "_law_marks" "_law_marks" (defArgs s__law_marks) (defBody s__law_marks) (defScope s__law_marks) .none kV1 dc1 pm1 an1 cd1 ct1
  F__law_marks := fun_mk (st := s__law_marks) l1 c1 k1
  g__law_marks := PySem.W.mg_of X G a1
  b__law_marks := (fun_mk (st := s__law_marks) l1 c1 k1).binds fun _ _ _ _ _ _ us hl => match us, hl with | [_], _ => rfl
  a__law_alone := f2
  d__law_alone := PySem.W.fnOf "_law_alone" "_law_alone" (defArgs s__law_alone) (defBody s__law_alone) (defScope s__law_alone) .none kV2 dc2 pm2 an2 cd2 ct2
  F__law_alone := fun_mk (st := s__law_alone) l2 c2 k2
  g__law_alone := PySem.W.mg_of X G a2
  b__law_alone := (fun_mk (st := s__law_alone) l2 c2 k2).binds fun _ _ _ _ _ _ us hl => match us, hl with | [_, _], _ => rfl
  a__law_plain_errors := f3
  d__law_plain_errors := PySem.W.fnOf "_law_plain_errors" "_law_plain_errors" (defArgs s__law_plain_errors) (defBody s__law_plain_errors) (defScope s__law_plain_errors) .none kV3 dc3 pm3 an3 cd3 ct3
  F__law_plain_errors := fun_mk (st := s__law_plain_errors) l3 c3 k3
  g__law_plain_errors := PySem.W.mg_of X G a3
  b__law_plain_errors := (fun_mk (st := s__law_plain_errors) l3 c3 k3).binds fun _ _ _ _ _ _ us hl => match us, hl with | [], _ => rfl
  a_law := f4
  d_law := PySem.W.fnOf "law" "law" (defArgs s_law) (defBody s_law) (defScope s_law) .none kV4 dc4 pm4 an4 cd4 ct4
  F_law := fun_mk (st := s_law) l4 c4 k4
  g_law := PySem.W.mg_of X G a4
  b_law := (fun_mk (st := s_law) l4 c4 k4).binds fun _ _ _ _ _ _ us hl => match us, hl with | [_], _ => rfl
  m_range := PySem.W.mg_none_of X G z0
  m_len := PySem.W.mg_none_of X G z1
  m_int := PySem.W.mg_none_of X G z2
  m_isinstance := PySem.W.mg_none_of X G z3
  m_ValueError := PySem.W.mg_none_of X G z4
  m_all := PySem.W.mg_none_of X G z5
  c := ⟨C_BadSize, C_BadNumber, C_BadStand, C_BadPlace, C_NoAnswer, C_NotAnswer, C_NoRoad, C_NothingToUndo, C_NothingToRedo, C_BadRoad, C_BadEntry, C_BadCall, C_BadText, C_NearError⟩
  gc_BadSize := PySem.W.mg_of X G ac_BadSize
  gc_BadNumber := PySem.W.mg_of X G ac_BadNumber
  gc_BadStand := PySem.W.mg_of X G ac_BadStand
  gc_BadPlace := PySem.W.mg_of X G ac_BadPlace
  gc_NoAnswer := PySem.W.mg_of X G ac_NoAnswer
  gc_NotAnswer := PySem.W.mg_of X G ac_NotAnswer
  gc_NoRoad := PySem.W.mg_of X G ac_NoRoad
  gc_NothingToUndo := PySem.W.mg_of X G ac_NothingToUndo
  gc_NothingToRedo := PySem.W.mg_of X G ac_NothingToRedo
  gc_BadRoad := PySem.W.mg_of X G ac_BadRoad
  gc_BadEntry := PySem.W.mg_of X G ac_BadEntry
  gc_BadCall := PySem.W.mg_of X G ac_BadCall
  gc_BadText := PySem.W.mg_of X G ac_BadText
  gc_NearError := PySem.W.mg_of X G ac_NearError
  e_BadSize := ee_BadSize
  e_BadNumber := ee_BadNumber
  e_BadStand := ee_BadStand
  e_BadPlace := ee_BadPlace
  e_NoAnswer := ee_NoAnswer
  e_NotAnswer := ee_NotAnswer
  e_NoRoad := ee_NoRoad
  e_NothingToUndo := ee_NothingToUndo
  e_NothingToRedo := ee_NothingToRedo
  e_BadRoad := ee_BadRoad
  e_BadEntry := ee_BadEntry
  e_BadCall := ee_BadCall
  e_BadText := ee_BadText
  t_BadSize := tabOk_c ee_BadSize k_BadSize_BadSize (tabOk_c ee_BadNumber k_BadSize_BadNumber (tabOk_c ee_BadStand k_BadSize_BadStand (tabOk_c ee_BadPlace k_BadSize_BadPlace (tabOk_c ee_NoAnswer k_BadSize_NoAnswer (tabOk_c ee_NotAnswer k_BadSize_NotAnswer (tabOk_c ee_NoRoad k_BadSize_NoRoad (tabOk_c ee_NothingToUndo k_BadSize_NothingToUndo (tabOk_c ee_NothingToRedo k_BadSize_NothingToRedo (tabOk_c ee_BadRoad k_BadSize_BadRoad (tabOk_c ee_BadEntry k_BadSize_BadEntry (tabOk_c ee_BadCall k_BadSize_BadCall (tabOk_c ee_BadText k_BadSize_BadText (tabOk_n)))))))))))))
  t_BadNumber := tabOk_c ee_BadSize k_BadNumber_BadSize (tabOk_c ee_BadNumber k_BadNumber_BadNumber (tabOk_c ee_BadStand k_BadNumber_BadStand (tabOk_c ee_BadPlace k_BadNumber_BadPlace (tabOk_c ee_NoAnswer k_BadNumber_NoAnswer (tabOk_c ee_NotAnswer k_BadNumber_NotAnswer (tabOk_c ee_NoRoad k_BadNumber_NoRoad (tabOk_c ee_NothingToUndo k_BadNumber_NothingToUndo (tabOk_c ee_NothingToRedo k_BadNumber_NothingToRedo (tabOk_c ee_BadRoad k_BadNumber_BadRoad (tabOk_c ee_BadEntry k_BadNumber_BadEntry (tabOk_c ee_BadCall k_BadNumber_BadCall (tabOk_c ee_BadText k_BadNumber_BadText (tabOk_n)))))))))))))
  t_BadStand := tabOk_c ee_BadSize k_BadStand_BadSize (tabOk_c ee_BadNumber k_BadStand_BadNumber (tabOk_c ee_BadStand k_BadStand_BadStand (tabOk_c ee_BadPlace k_BadStand_BadPlace (tabOk_c ee_NoAnswer k_BadStand_NoAnswer (tabOk_c ee_NotAnswer k_BadStand_NotAnswer (tabOk_c ee_NoRoad k_BadStand_NoRoad (tabOk_c ee_NothingToUndo k_BadStand_NothingToUndo (tabOk_c ee_NothingToRedo k_BadStand_NothingToRedo (tabOk_c ee_BadRoad k_BadStand_BadRoad (tabOk_c ee_BadEntry k_BadStand_BadEntry (tabOk_c ee_BadCall k_BadStand_BadCall (tabOk_c ee_BadText k_BadStand_BadText (tabOk_n)))))))))))))
  t_BadPlace := tabOk_c ee_BadSize k_BadPlace_BadSize (tabOk_c ee_BadNumber k_BadPlace_BadNumber (tabOk_c ee_BadStand k_BadPlace_BadStand (tabOk_c ee_BadPlace k_BadPlace_BadPlace (tabOk_c ee_NoAnswer k_BadPlace_NoAnswer (tabOk_c ee_NotAnswer k_BadPlace_NotAnswer (tabOk_c ee_NoRoad k_BadPlace_NoRoad (tabOk_c ee_NothingToUndo k_BadPlace_NothingToUndo (tabOk_c ee_NothingToRedo k_BadPlace_NothingToRedo (tabOk_c ee_BadRoad k_BadPlace_BadRoad (tabOk_c ee_BadEntry k_BadPlace_BadEntry (tabOk_c ee_BadCall k_BadPlace_BadCall (tabOk_c ee_BadText k_BadPlace_BadText (tabOk_n)))))))))))))
  t_NoAnswer := tabOk_c ee_BadSize k_NoAnswer_BadSize (tabOk_c ee_BadNumber k_NoAnswer_BadNumber (tabOk_c ee_BadStand k_NoAnswer_BadStand (tabOk_c ee_BadPlace k_NoAnswer_BadPlace (tabOk_c ee_NoAnswer k_NoAnswer_NoAnswer (tabOk_c ee_NotAnswer k_NoAnswer_NotAnswer (tabOk_c ee_NoRoad k_NoAnswer_NoRoad (tabOk_c ee_NothingToUndo k_NoAnswer_NothingToUndo (tabOk_c ee_NothingToRedo k_NoAnswer_NothingToRedo (tabOk_c ee_BadRoad k_NoAnswer_BadRoad (tabOk_c ee_BadEntry k_NoAnswer_BadEntry (tabOk_c ee_BadCall k_NoAnswer_BadCall (tabOk_c ee_BadText k_NoAnswer_BadText (tabOk_n)))))))))))))
  t_NotAnswer := tabOk_c ee_BadSize k_NotAnswer_BadSize (tabOk_c ee_BadNumber k_NotAnswer_BadNumber (tabOk_c ee_BadStand k_NotAnswer_BadStand (tabOk_c ee_BadPlace k_NotAnswer_BadPlace (tabOk_c ee_NoAnswer k_NotAnswer_NoAnswer (tabOk_c ee_NotAnswer k_NotAnswer_NotAnswer (tabOk_c ee_NoRoad k_NotAnswer_NoRoad (tabOk_c ee_NothingToUndo k_NotAnswer_NothingToUndo (tabOk_c ee_NothingToRedo k_NotAnswer_NothingToRedo (tabOk_c ee_BadRoad k_NotAnswer_BadRoad (tabOk_c ee_BadEntry k_NotAnswer_BadEntry (tabOk_c ee_BadCall k_NotAnswer_BadCall (tabOk_c ee_BadText k_NotAnswer_BadText (tabOk_n)))))))))))))
  t_NoRoad := tabOk_c ee_BadSize k_NoRoad_BadSize (tabOk_c ee_BadNumber k_NoRoad_BadNumber (tabOk_c ee_BadStand k_NoRoad_BadStand (tabOk_c ee_BadPlace k_NoRoad_BadPlace (tabOk_c ee_NoAnswer k_NoRoad_NoAnswer (tabOk_c ee_NotAnswer k_NoRoad_NotAnswer (tabOk_c ee_NoRoad k_NoRoad_NoRoad (tabOk_c ee_NothingToUndo k_NoRoad_NothingToUndo (tabOk_c ee_NothingToRedo k_NoRoad_NothingToRedo (tabOk_c ee_BadRoad k_NoRoad_BadRoad (tabOk_c ee_BadEntry k_NoRoad_BadEntry (tabOk_c ee_BadCall k_NoRoad_BadCall (tabOk_c ee_BadText k_NoRoad_BadText (tabOk_n)))))))))))))
  t_NothingToUndo := tabOk_c ee_BadSize k_NothingToUndo_BadSize (tabOk_c ee_BadNumber k_NothingToUndo_BadNumber (tabOk_c ee_BadStand k_NothingToUndo_BadStand (tabOk_c ee_BadPlace k_NothingToUndo_BadPlace (tabOk_c ee_NoAnswer k_NothingToUndo_NoAnswer (tabOk_c ee_NotAnswer k_NothingToUndo_NotAnswer (tabOk_c ee_NoRoad k_NothingToUndo_NoRoad (tabOk_c ee_NothingToUndo k_NothingToUndo_NothingToUndo (tabOk_c ee_NothingToRedo k_NothingToUndo_NothingToRedo (tabOk_c ee_BadRoad k_NothingToUndo_BadRoad (tabOk_c ee_BadEntry k_NothingToUndo_BadEntry (tabOk_c ee_BadCall k_NothingToUndo_BadCall (tabOk_c ee_BadText k_NothingToUndo_BadText (tabOk_n)))))))))))))
  t_NothingToRedo := tabOk_c ee_BadSize k_NothingToRedo_BadSize (tabOk_c ee_BadNumber k_NothingToRedo_BadNumber (tabOk_c ee_BadStand k_NothingToRedo_BadStand (tabOk_c ee_BadPlace k_NothingToRedo_BadPlace (tabOk_c ee_NoAnswer k_NothingToRedo_NoAnswer (tabOk_c ee_NotAnswer k_NothingToRedo_NotAnswer (tabOk_c ee_NoRoad k_NothingToRedo_NoRoad (tabOk_c ee_NothingToUndo k_NothingToRedo_NothingToUndo (tabOk_c ee_NothingToRedo k_NothingToRedo_NothingToRedo (tabOk_c ee_BadRoad k_NothingToRedo_BadRoad (tabOk_c ee_BadEntry k_NothingToRedo_BadEntry (tabOk_c ee_BadCall k_NothingToRedo_BadCall (tabOk_c ee_BadText k_NothingToRedo_BadText (tabOk_n)))))))))))))
  t_BadRoad := tabOk_c ee_BadSize k_BadRoad_BadSize (tabOk_c ee_BadNumber k_BadRoad_BadNumber (tabOk_c ee_BadStand k_BadRoad_BadStand (tabOk_c ee_BadPlace k_BadRoad_BadPlace (tabOk_c ee_NoAnswer k_BadRoad_NoAnswer (tabOk_c ee_NotAnswer k_BadRoad_NotAnswer (tabOk_c ee_NoRoad k_BadRoad_NoRoad (tabOk_c ee_NothingToUndo k_BadRoad_NothingToUndo (tabOk_c ee_NothingToRedo k_BadRoad_NothingToRedo (tabOk_c ee_BadRoad k_BadRoad_BadRoad (tabOk_c ee_BadEntry k_BadRoad_BadEntry (tabOk_c ee_BadCall k_BadRoad_BadCall (tabOk_c ee_BadText k_BadRoad_BadText (tabOk_n)))))))))))))
  t_BadEntry := tabOk_c ee_BadSize k_BadEntry_BadSize (tabOk_c ee_BadNumber k_BadEntry_BadNumber (tabOk_c ee_BadStand k_BadEntry_BadStand (tabOk_c ee_BadPlace k_BadEntry_BadPlace (tabOk_c ee_NoAnswer k_BadEntry_NoAnswer (tabOk_c ee_NotAnswer k_BadEntry_NotAnswer (tabOk_c ee_NoRoad k_BadEntry_NoRoad (tabOk_c ee_NothingToUndo k_BadEntry_NothingToUndo (tabOk_c ee_NothingToRedo k_BadEntry_NothingToRedo (tabOk_c ee_BadRoad k_BadEntry_BadRoad (tabOk_c ee_BadEntry k_BadEntry_BadEntry (tabOk_c ee_BadCall k_BadEntry_BadCall (tabOk_c ee_BadText k_BadEntry_BadText (tabOk_n)))))))))))))
  t_BadCall := tabOk_c ee_BadSize k_BadCall_BadSize (tabOk_c ee_BadNumber k_BadCall_BadNumber (tabOk_c ee_BadStand k_BadCall_BadStand (tabOk_c ee_BadPlace k_BadCall_BadPlace (tabOk_c ee_NoAnswer k_BadCall_NoAnswer (tabOk_c ee_NotAnswer k_BadCall_NotAnswer (tabOk_c ee_NoRoad k_BadCall_NoRoad (tabOk_c ee_NothingToUndo k_BadCall_NothingToUndo (tabOk_c ee_NothingToRedo k_BadCall_NothingToRedo (tabOk_c ee_BadRoad k_BadCall_BadRoad (tabOk_c ee_BadEntry k_BadCall_BadEntry (tabOk_c ee_BadCall k_BadCall_BadCall (tabOk_c ee_BadText k_BadCall_BadText (tabOk_n)))))))))))))
  t_BadText := tabOk_c ee_BadSize k_BadText_BadSize (tabOk_c ee_BadNumber k_BadText_BadNumber (tabOk_c ee_BadStand k_BadText_BadStand (tabOk_c ee_BadPlace k_BadText_BadPlace (tabOk_c ee_NoAnswer k_BadText_NoAnswer (tabOk_c ee_NotAnswer k_BadText_NotAnswer (tabOk_c ee_NoRoad k_BadText_NoRoad (tabOk_c ee_NothingToUndo k_BadText_NothingToUndo (tabOk_c ee_NothingToRedo k_BadText_NothingToRedo (tabOk_c ee_BadRoad k_BadText_BadRoad (tabOk_c ee_BadEntry k_BadText_BadEntry (tabOk_c ee_BadCall k_BadText_BadCall (tabOk_c ee_BadText k_BadText_BadText (tabOk_n)))))))))))))
  t_NearError := tabOk_c ee_BadSize k_NearError_BadSize (tabOk_c ee_BadNumber k_NearError_BadNumber (tabOk_c ee_BadStand k_NearError_BadStand (tabOk_c ee_BadPlace k_NearError_BadPlace (tabOk_c ee_NoAnswer k_NearError_NoAnswer (tabOk_c ee_NotAnswer k_NearError_NotAnswer (tabOk_c ee_NoRoad k_NearError_NoRoad (tabOk_c ee_NothingToUndo k_NearError_NothingToUndo (tabOk_c ee_NothingToRedo k_NearError_NothingToRedo (tabOk_c ee_BadRoad k_NearError_BadRoad (tabOk_c ee_BadEntry k_NearError_BadEntry (tabOk_c ee_BadCall k_NearError_BadCall (tabOk_c ee_BadText k_NearError_BadText (tabOk_n)))))))))))))
  t_ValueError := tabOk_c ee_BadSize k_ValueError_BadSize (tabOk_c ee_BadNumber k_ValueError_BadNumber (tabOk_c ee_BadStand k_ValueError_BadStand (tabOk_c ee_BadPlace k_ValueError_BadPlace (tabOk_c ee_NoAnswer k_ValueError_NoAnswer (tabOk_c ee_NotAnswer k_ValueError_NotAnswer (tabOk_c ee_NoRoad k_ValueError_NoRoad (tabOk_c ee_NothingToUndo k_ValueError_NothingToUndo (tabOk_c ee_NothingToRedo k_ValueError_NothingToRedo (tabOk_c ee_BadRoad k_ValueError_BadRoad (tabOk_c ee_BadEntry k_ValueError_BadEntry (tabOk_c ee_BadCall k_ValueError_BadCall (tabOk_c ee_BadText k_ValueError_BadText (tabOk_n)))))))))))))
  x_BadSize := x_BadSize
  kc_BadSize := kc_BadSize
  x_BadNumber := x_BadNumber
  kc_BadNumber := kc_BadNumber
  x_BadStand := x_BadStand
  kc_BadStand := kc_BadStand
  x_BadPlace := x_BadPlace
  kc_BadPlace := kc_BadPlace
  x_NoAnswer := x_NoAnswer
  kc_NoAnswer := kc_NoAnswer
  x_NotAnswer := x_NotAnswer
  kc_NotAnswer := kc_NotAnswer
  x_NoRoad := x_NoRoad
  kc_NoRoad := kc_NoRoad
  x_NothingToUndo := x_NothingToUndo
  kc_NothingToUndo := kc_NothingToUndo
  x_NothingToRedo := x_NothingToRedo
  kc_NothingToRedo := kc_NothingToRedo
  T_BadRoad := ⟨⟨_, _, _, _, _, _, _, _, _, _, _, _, _, _, _, xl_BadRoad, rv_BadRoad⟩, sa_BadRoad, su_BadRoad, ty_BadRoad, kc_BadRoad⟩
  fI_BadRoad := fI_BadRoad
  dI_BadRoad := PySem.W.fnOf "__init__" "BadRoad.__init__" (defArgs sI_BadRoad) (defBody sI_BadRoad) (defScope sI_BadRoad) .none kVI_BadRoad dcI_BadRoad pmI_BadRoad anI_BadRoad cdI_BadRoad ctI_BadRoad
  FI_BadRoad := fun_mk (st := sI_BadRoad) lI_BadRoad cI_BadRoad kI_BadRoad
  iC_BadRoad := iC_BadRoad
  tI_BadRoad := tI_BadRoad
  bI_BadRoad := (fun_mk (st := sI_BadRoad) lI_BadRoad cI_BadRoad kI_BadRoad).binds fun _ _ _ _ _ _ us hl => match us, hl with | [_, _], _ => rfl
  no_BadRoad_at := no_BadRoad_at
  T_BadEntry := ⟨⟨_, _, _, _, _, _, _, _, _, _, _, _, _, _, _, xl_BadEntry, rv_BadEntry⟩, sa_BadEntry, su_BadEntry, ty_BadEntry, kc_BadEntry⟩
  fI_BadEntry := fI_BadEntry
  dI_BadEntry := PySem.W.fnOf "__init__" "BadEntry.__init__" (defArgs sI_BadEntry) (defBody sI_BadEntry) (defScope sI_BadEntry) .none kVI_BadEntry dcI_BadEntry pmI_BadEntry anI_BadEntry cdI_BadEntry ctI_BadEntry
  FI_BadEntry := fun_mk (st := sI_BadEntry) lI_BadEntry cI_BadEntry kI_BadEntry
  iC_BadEntry := iC_BadEntry
  tI_BadEntry := tI_BadEntry
  bI_BadEntry := (fun_mk (st := sI_BadEntry) lI_BadEntry cI_BadEntry kI_BadEntry).binds fun _ _ _ _ _ _ us hl => match us, hl with | [_, _], _ => rfl
  no_BadEntry_at := no_BadEntry_at
  T_BadCall := ⟨⟨_, _, _, _, _, _, _, _, _, _, _, _, _, _, _, xl_BadCall, rv_BadCall⟩, sa_BadCall, su_BadCall, ty_BadCall, kc_BadCall⟩
  fI_BadCall := fI_BadCall
  dI_BadCall := PySem.W.fnOf "__init__" "BadCall.__init__" (defArgs sI_BadCall) (defBody sI_BadCall) (defScope sI_BadCall) .none kVI_BadCall dcI_BadCall pmI_BadCall anI_BadCall cdI_BadCall ctI_BadCall
  FI_BadCall := fun_mk (st := sI_BadCall) lI_BadCall cI_BadCall kI_BadCall
  iC_BadCall := iC_BadCall
  tI_BadCall := tI_BadCall
  bI_BadCall := (fun_mk (st := sI_BadCall) lI_BadCall cI_BadCall kI_BadCall).binds fun _ _ _ _ _ _ us hl => match us, hl with | [_, _], _ => rfl
  no_BadCall_at := no_BadCall_at
  T_BadText := ⟨⟨_, _, _, _, _, _, _, _, _, _, _, _, _, _, _, xl_BadText, rv_BadText⟩, sa_BadText, su_BadText, ty_BadText, kc_BadText⟩
  fI_BadText := fI_BadText
  dI_BadText := PySem.W.fnOf "__init__" "BadText.__init__" (defArgs sI_BadText) (defBody sI_BadText) (defScope sI_BadText) .none kVI_BadText dcI_BadText pmI_BadText anI_BadText cdI_BadText ctI_BadText
  FI_BadText := fun_mk (st := sI_BadText) lI_BadText cI_BadText kI_BadText
  iC_BadText := iC_BadText
  tI_BadText := tI_BadText
  bI_BadText := (fun_mk (st := sI_BadText) lI_BadText cI_BadText kI_BadText).binds fun _ _ _ _ _ _ us hl => match us, hl with | [_, _, _], _ => rfl
  no_BadText_line := no_BadText_line
  no_BadText_column := no_BadText_column
  }
theorem all_mk {l : PySem.W.OpenLaw} {w : World} {K : PySem.W.Frag} {h : Heap} {mg : Str → Option Value} {fa : Addr} (X : K.In h) (G : h.Ns mainGlobals mg) (hfa : mg "law" = some (.ref fa))
    {f0 : Addr} {od0 an0 : Option Addr} {sl0 : Array (Option Value)} {oc0 kV0 dc0 pm0 cd0 ct0 : Value}
    {f1 : Addr} {od1 an1 : Option Addr} {sl1 : Array (Option Value)} {oc1 kV1 dc1 pm1 cd1 ct1 : Value}
    {f2 : Addr} {od2 an2 : Option Addr} {sl2 : Array (Option Value)} {oc2 kV2 dc2 pm2 cd2 ct2 : Value}
    {f3 : Addr} {od3 an3 : Option Addr} {sl3 : Array (Option Value)} {oc3 kV3 dc3 pm3 cd3 ct3 : Value}
    {f4 : Addr} {od4 an4 : Option Addr} {sl4 : Array (Option Value)} {oc4 kV4 dc4 pm4 cd4 ct4 : Value}
    {C_BadSize : Addr}
    {C_BadNumber : Addr}
    {C_BadStand : Addr}
    {C_BadPlace : Addr}
    {C_NoAnswer : Addr}
    {C_NotAnswer : Addr}
    {C_NoRoad : Addr}
    {C_NothingToUndo : Addr}
    {C_NothingToRedo : Addr}
    {C_BadRoad : Addr}
    {C_BadEntry : Addr}
    {C_BadCall : Addr}
    {C_BadText : Addr}
    {C_NearError : Addr}
    {cd_BadSize : ClassData}
    {cd_BadNumber : ClassData}
    {cd_BadStand : ClassData}
    {cd_BadPlace : ClassData}
    {cd_NoAnswer : ClassData}
    {cd_NotAnswer : ClassData}
    {cd_NoRoad : ClassData}
    {cd_NothingToUndo : ClassData}
    {cd_NothingToRedo : ClassData}
    {cd_BadRoad : ClassData}
    {cd_BadEntry : ClassData}
    {cd_BadCall : ClassData}
    {cd_BadText : ClassData}
    {nm_BadRoad q_BadRoad : Str} {N_BadRoad : Addr} {bs_BadRoad bm_BadRoad sub_BadRoad : List Value} {sn_BadRoad : List Str} {ab_BadRoad : Bool} {col_BadRoad : Option Bool} {dd_BadRoad : Option Addr} {k0_BadRoad k1_BadRoad k2_BadRoad k3_BadRoad k5_BadRoad : Option Value}
    {fI_BadRoad : Addr} {odI_BadRoad anI_BadRoad : Option Addr} {slI_BadRoad : Array (Option Value)} {ocI_BadRoad kVI_BadRoad dcI_BadRoad pmI_BadRoad cdI_BadRoad ctI_BadRoad : Value}
    {nm_BadEntry q_BadEntry : Str} {N_BadEntry : Addr} {bs_BadEntry bm_BadEntry sub_BadEntry : List Value} {sn_BadEntry : List Str} {ab_BadEntry : Bool} {col_BadEntry : Option Bool} {dd_BadEntry : Option Addr} {k0_BadEntry k1_BadEntry k2_BadEntry k3_BadEntry k5_BadEntry : Option Value}
    {fI_BadEntry : Addr} {odI_BadEntry anI_BadEntry : Option Addr} {slI_BadEntry : Array (Option Value)} {ocI_BadEntry kVI_BadEntry dcI_BadEntry pmI_BadEntry cdI_BadEntry ctI_BadEntry : Value}
    {nm_BadCall q_BadCall : Str} {N_BadCall : Addr} {bs_BadCall bm_BadCall sub_BadCall : List Value} {sn_BadCall : List Str} {ab_BadCall : Bool} {col_BadCall : Option Bool} {dd_BadCall : Option Addr} {k0_BadCall k1_BadCall k2_BadCall k3_BadCall k5_BadCall : Option Value}
    {fI_BadCall : Addr} {odI_BadCall anI_BadCall : Option Addr} {slI_BadCall : Array (Option Value)} {ocI_BadCall kVI_BadCall dcI_BadCall pmI_BadCall cdI_BadCall ctI_BadCall : Value}
    {nm_BadText q_BadText : Str} {N_BadText : Addr} {bs_BadText bm_BadText sub_BadText : List Value} {sn_BadText : List Str} {ab_BadText : Bool} {col_BadText : Option Bool} {dd_BadText : Option Addr} {k0_BadText k1_BadText k2_BadText k3_BadText k5_BadText : Option Value}
    {fI_BadText : Addr} {odI_BadText anI_BadText : Option Addr} {slI_BadText : Array (Option Value)} {ocI_BadText kVI_BadText dcI_BadText pmI_BadText cdI_BadText ctI_BadText : Value}
    (a0 : PySem.W.nsIn K mainGlobals "_law_draws" = some (some (.ref f0))) (l0 : K.lookup f0 = some ⟨oc0, od0, .func (PySem.W.fnOf "_law_draws" "_law_draws" (defArgs s__law_draws) (defBody s__law_draws) (defScope s__law_draws) .none kV0 dc0 pm0 an0 cd0 ct0), sl0⟩) (c0 : PySem.W.codeIn K cd0 "_law_draws" = true) (k0 : PySem.W.keepIn K (.ref f0) = true)
    (a1 : PySem.W.nsIn K mainGlobals "_law_marks" = some (some (.ref f1))) (l1 : K.lookup f1 = some ⟨oc1, od1, .func (PySem.W.fnOf "_law_marks" "_law_marks" (defArgs s__law_marks) (defBody s__law_marks) (defScope s__law_marks) .none kV1 dc1 pm1 an1 cd1 ct1), sl1⟩) (c1 : PySem.W.codeIn K cd1 "_law_marks" = true) (k1 : PySem.W.keepIn K (.ref f1) = true)
    (a2 : PySem.W.nsIn K mainGlobals "_law_alone" = some (some (.ref f2))) (l2 : K.lookup f2 = some ⟨oc2, od2, .func (PySem.W.fnOf "_law_alone" "_law_alone" (defArgs s__law_alone) (defBody s__law_alone) (defScope s__law_alone) .none kV2 dc2 pm2 an2 cd2 ct2), sl2⟩) (c2 : PySem.W.codeIn K cd2 "_law_alone" = true) (k2 : PySem.W.keepIn K (.ref f2) = true)
    (a3 : PySem.W.nsIn K mainGlobals "_law_plain_errors" = some (some (.ref f3))) (l3 : K.lookup f3 = some ⟨oc3, od3, .func (PySem.W.fnOf "_law_plain_errors" "_law_plain_errors" (defArgs s__law_plain_errors) (defBody s__law_plain_errors) (defScope s__law_plain_errors) .none kV3 dc3 pm3 an3 cd3 ct3), sl3⟩) (c3 : PySem.W.codeIn K cd3 "_law_plain_errors" = true) (k3 : PySem.W.keepIn K (.ref f3) = true)
    (a4 : PySem.W.nsIn K mainGlobals "law" = some (some (.ref f4))) (l4 : K.lookup f4 = some ⟨oc4, od4, .func (PySem.W.fnOf "law" "law" (defArgs s_law) (defBody s_law) (defScope s_law) .none kV4 dc4 pm4 an4 cd4 ct4), sl4⟩) (c4 : PySem.W.codeIn K cd4 "law" = true) (k4 : PySem.W.keepIn K (.ref f4) = true)
    (ac_BadSize : PySem.W.nsIn K mainGlobals "BadSize" = some (some (.ref C_BadSize)))
    (ac_BadNumber : PySem.W.nsIn K mainGlobals "BadNumber" = some (some (.ref C_BadNumber)))
    (ac_BadStand : PySem.W.nsIn K mainGlobals "BadStand" = some (some (.ref C_BadStand)))
    (ac_BadPlace : PySem.W.nsIn K mainGlobals "BadPlace" = some (some (.ref C_BadPlace)))
    (ac_NoAnswer : PySem.W.nsIn K mainGlobals "NoAnswer" = some (some (.ref C_NoAnswer)))
    (ac_NotAnswer : PySem.W.nsIn K mainGlobals "NotAnswer" = some (some (.ref C_NotAnswer)))
    (ac_NoRoad : PySem.W.nsIn K mainGlobals "NoRoad" = some (some (.ref C_NoRoad)))
    (ac_NothingToUndo : PySem.W.nsIn K mainGlobals "NothingToUndo" = some (some (.ref C_NothingToUndo)))
    (ac_NothingToRedo : PySem.W.nsIn K mainGlobals "NothingToRedo" = some (some (.ref C_NothingToRedo)))
    (ac_BadRoad : PySem.W.nsIn K mainGlobals "BadRoad" = some (some (.ref C_BadRoad)))
    (ac_BadEntry : PySem.W.nsIn K mainGlobals "BadEntry" = some (some (.ref C_BadEntry)))
    (ac_BadCall : PySem.W.nsIn K mainGlobals "BadCall" = some (some (.ref C_BadCall)))
    (ac_BadText : PySem.W.nsIn K mainGlobals "BadText" = some (some (.ref C_BadText)))
    (ac_NearError : PySem.W.nsIn K mainGlobals "NearError" = some (some (.ref C_NearError)))
    (ge : PySem.W.specialIn K (.builtin "object.__class__") "__get__" = some (some (.builtin "getset_descriptor.__get__")))
    (ta : PySem.W.takesIn K (.builtin "object.__class__") = some true)
    (cl_BadSize : PySem.W.clsIn K C_BadSize = some cd_BadSize)
    (ga_BadSize : PySem.W.findIn K (.ref C_BadSize) "__getattribute__" = some (some (.builtin "BaseException.__getattribute__")))
    (gg_BadSize : PySem.W.findIn K (.ref C_BadSize) "__getattr__" = some none)
    (su_BadSize : PySem.W.subIn K (.ref C_BadSize) (.type "BaseException") = some true)
    (ca_BadSize : PySem.W.findIn K (.ref C_BadSize) "__class__" = some (some (.builtin "object.__class__")))
    (ob_BadSize : PySem.W.mroIn K C_BadSize (.type "object") = some true)
    (hd_BadSize : PySem.W.hasDictIn K C_BadSize = true)
    (kc_BadSize : PySem.W.keepIn K (.ref C_BadSize) = true)
    (cl_BadNumber : PySem.W.clsIn K C_BadNumber = some cd_BadNumber)
    (ga_BadNumber : PySem.W.findIn K (.ref C_BadNumber) "__getattribute__" = some (some (.builtin "BaseException.__getattribute__")))
    (gg_BadNumber : PySem.W.findIn K (.ref C_BadNumber) "__getattr__" = some none)
    (su_BadNumber : PySem.W.subIn K (.ref C_BadNumber) (.type "BaseException") = some true)
    (ca_BadNumber : PySem.W.findIn K (.ref C_BadNumber) "__class__" = some (some (.builtin "object.__class__")))
    (ob_BadNumber : PySem.W.mroIn K C_BadNumber (.type "object") = some true)
    (hd_BadNumber : PySem.W.hasDictIn K C_BadNumber = true)
    (kc_BadNumber : PySem.W.keepIn K (.ref C_BadNumber) = true)
    (cl_BadStand : PySem.W.clsIn K C_BadStand = some cd_BadStand)
    (ga_BadStand : PySem.W.findIn K (.ref C_BadStand) "__getattribute__" = some (some (.builtin "BaseException.__getattribute__")))
    (gg_BadStand : PySem.W.findIn K (.ref C_BadStand) "__getattr__" = some none)
    (su_BadStand : PySem.W.subIn K (.ref C_BadStand) (.type "BaseException") = some true)
    (ca_BadStand : PySem.W.findIn K (.ref C_BadStand) "__class__" = some (some (.builtin "object.__class__")))
    (ob_BadStand : PySem.W.mroIn K C_BadStand (.type "object") = some true)
    (hd_BadStand : PySem.W.hasDictIn K C_BadStand = true)
    (kc_BadStand : PySem.W.keepIn K (.ref C_BadStand) = true)
    (cl_BadPlace : PySem.W.clsIn K C_BadPlace = some cd_BadPlace)
    (ga_BadPlace : PySem.W.findIn K (.ref C_BadPlace) "__getattribute__" = some (some (.builtin "BaseException.__getattribute__")))
    (gg_BadPlace : PySem.W.findIn K (.ref C_BadPlace) "__getattr__" = some none)
    (su_BadPlace : PySem.W.subIn K (.ref C_BadPlace) (.type "BaseException") = some true)
    (ca_BadPlace : PySem.W.findIn K (.ref C_BadPlace) "__class__" = some (some (.builtin "object.__class__")))
    (ob_BadPlace : PySem.W.mroIn K C_BadPlace (.type "object") = some true)
    (hd_BadPlace : PySem.W.hasDictIn K C_BadPlace = true)
    (kc_BadPlace : PySem.W.keepIn K (.ref C_BadPlace) = true)
    (cl_NoAnswer : PySem.W.clsIn K C_NoAnswer = some cd_NoAnswer)
    (ga_NoAnswer : PySem.W.findIn K (.ref C_NoAnswer) "__getattribute__" = some (some (.builtin "BaseException.__getattribute__")))
    (gg_NoAnswer : PySem.W.findIn K (.ref C_NoAnswer) "__getattr__" = some none)
    (su_NoAnswer : PySem.W.subIn K (.ref C_NoAnswer) (.type "BaseException") = some true)
    (ca_NoAnswer : PySem.W.findIn K (.ref C_NoAnswer) "__class__" = some (some (.builtin "object.__class__")))
    (ob_NoAnswer : PySem.W.mroIn K C_NoAnswer (.type "object") = some true)
    (hd_NoAnswer : PySem.W.hasDictIn K C_NoAnswer = true)
    (kc_NoAnswer : PySem.W.keepIn K (.ref C_NoAnswer) = true)
    (cl_NotAnswer : PySem.W.clsIn K C_NotAnswer = some cd_NotAnswer)
    (ga_NotAnswer : PySem.W.findIn K (.ref C_NotAnswer) "__getattribute__" = some (some (.builtin "BaseException.__getattribute__")))
    (gg_NotAnswer : PySem.W.findIn K (.ref C_NotAnswer) "__getattr__" = some none)
    (su_NotAnswer : PySem.W.subIn K (.ref C_NotAnswer) (.type "BaseException") = some true)
    (ca_NotAnswer : PySem.W.findIn K (.ref C_NotAnswer) "__class__" = some (some (.builtin "object.__class__")))
    (ob_NotAnswer : PySem.W.mroIn K C_NotAnswer (.type "object") = some true)
    (hd_NotAnswer : PySem.W.hasDictIn K C_NotAnswer = true)
    (kc_NotAnswer : PySem.W.keepIn K (.ref C_NotAnswer) = true)
    (cl_NoRoad : PySem.W.clsIn K C_NoRoad = some cd_NoRoad)
    (ga_NoRoad : PySem.W.findIn K (.ref C_NoRoad) "__getattribute__" = some (some (.builtin "BaseException.__getattribute__")))
    (gg_NoRoad : PySem.W.findIn K (.ref C_NoRoad) "__getattr__" = some none)
    (su_NoRoad : PySem.W.subIn K (.ref C_NoRoad) (.type "BaseException") = some true)
    (ca_NoRoad : PySem.W.findIn K (.ref C_NoRoad) "__class__" = some (some (.builtin "object.__class__")))
    (ob_NoRoad : PySem.W.mroIn K C_NoRoad (.type "object") = some true)
    (hd_NoRoad : PySem.W.hasDictIn K C_NoRoad = true)
    (kc_NoRoad : PySem.W.keepIn K (.ref C_NoRoad) = true)
    (cl_NothingToUndo : PySem.W.clsIn K C_NothingToUndo = some cd_NothingToUndo)
    (ga_NothingToUndo : PySem.W.findIn K (.ref C_NothingToUndo) "__getattribute__" = some (some (.builtin "BaseException.__getattribute__")))
    (gg_NothingToUndo : PySem.W.findIn K (.ref C_NothingToUndo) "__getattr__" = some none)
    (su_NothingToUndo : PySem.W.subIn K (.ref C_NothingToUndo) (.type "BaseException") = some true)
    (ca_NothingToUndo : PySem.W.findIn K (.ref C_NothingToUndo) "__class__" = some (some (.builtin "object.__class__")))
    (ob_NothingToUndo : PySem.W.mroIn K C_NothingToUndo (.type "object") = some true)
    (hd_NothingToUndo : PySem.W.hasDictIn K C_NothingToUndo = true)
    (kc_NothingToUndo : PySem.W.keepIn K (.ref C_NothingToUndo) = true)
    (cl_NothingToRedo : PySem.W.clsIn K C_NothingToRedo = some cd_NothingToRedo)
    (ga_NothingToRedo : PySem.W.findIn K (.ref C_NothingToRedo) "__getattribute__" = some (some (.builtin "BaseException.__getattribute__")))
    (gg_NothingToRedo : PySem.W.findIn K (.ref C_NothingToRedo) "__getattr__" = some none)
    (su_NothingToRedo : PySem.W.subIn K (.ref C_NothingToRedo) (.type "BaseException") = some true)
    (ca_NothingToRedo : PySem.W.findIn K (.ref C_NothingToRedo) "__class__" = some (some (.builtin "object.__class__")))
    (ob_NothingToRedo : PySem.W.mroIn K C_NothingToRedo (.type "object") = some true)
    (hd_NothingToRedo : PySem.W.hasDictIn K C_NothingToRedo = true)
    (kc_NothingToRedo : PySem.W.keepIn K (.ref C_NothingToRedo) = true)
    (cl_BadRoad : PySem.W.clsIn K C_BadRoad = some cd_BadRoad)
    (ga_BadRoad : PySem.W.findIn K (.ref C_BadRoad) "__getattribute__" = some (some (.builtin "BaseException.__getattribute__")))
    (gg_BadRoad : PySem.W.findIn K (.ref C_BadRoad) "__getattr__" = some none)
    (su_BadRoad : PySem.W.subIn K (.ref C_BadRoad) (.type "BaseException") = some true)
    (ca_BadRoad : PySem.W.findIn K (.ref C_BadRoad) "__class__" = some (some (.builtin "object.__class__")))
    (ob_BadRoad : PySem.W.mroIn K C_BadRoad (.type "object") = some true)
    (hd_BadRoad : PySem.W.hasDictIn K C_BadRoad = true)
    (kc_BadRoad : PySem.W.keepIn K (.ref C_BadRoad) = true)
    (cl_BadEntry : PySem.W.clsIn K C_BadEntry = some cd_BadEntry)
    (ga_BadEntry : PySem.W.findIn K (.ref C_BadEntry) "__getattribute__" = some (some (.builtin "BaseException.__getattribute__")))
    (gg_BadEntry : PySem.W.findIn K (.ref C_BadEntry) "__getattr__" = some none)
    (su_BadEntry : PySem.W.subIn K (.ref C_BadEntry) (.type "BaseException") = some true)
    (ca_BadEntry : PySem.W.findIn K (.ref C_BadEntry) "__class__" = some (some (.builtin "object.__class__")))
    (ob_BadEntry : PySem.W.mroIn K C_BadEntry (.type "object") = some true)
    (hd_BadEntry : PySem.W.hasDictIn K C_BadEntry = true)
    (kc_BadEntry : PySem.W.keepIn K (.ref C_BadEntry) = true)
    (cl_BadCall : PySem.W.clsIn K C_BadCall = some cd_BadCall)
    (ga_BadCall : PySem.W.findIn K (.ref C_BadCall) "__getattribute__" = some (some (.builtin "BaseException.__getattribute__")))
    (gg_BadCall : PySem.W.findIn K (.ref C_BadCall) "__getattr__" = some none)
    (su_BadCall : PySem.W.subIn K (.ref C_BadCall) (.type "BaseException") = some true)
    (ca_BadCall : PySem.W.findIn K (.ref C_BadCall) "__class__" = some (some (.builtin "object.__class__")))
    (ob_BadCall : PySem.W.mroIn K C_BadCall (.type "object") = some true)
    (hd_BadCall : PySem.W.hasDictIn K C_BadCall = true)
    (kc_BadCall : PySem.W.keepIn K (.ref C_BadCall) = true)
    (cl_BadText : PySem.W.clsIn K C_BadText = some cd_BadText)
    (ga_BadText : PySem.W.findIn K (.ref C_BadText) "__getattribute__" = some (some (.builtin "BaseException.__getattribute__")))
    (gg_BadText : PySem.W.findIn K (.ref C_BadText) "__getattr__" = some none)
    (su_BadText : PySem.W.subIn K (.ref C_BadText) (.type "BaseException") = some true)
    (ca_BadText : PySem.W.findIn K (.ref C_BadText) "__class__" = some (some (.builtin "object.__class__")))
    (ob_BadText : PySem.W.mroIn K C_BadText (.type "object") = some true)
    (hd_BadText : PySem.W.hasDictIn K C_BadText = true)
    (kc_BadText : PySem.W.keepIn K (.ref C_BadText) = true)
    (k_BadSize_BadSize : PySem.W.kitOne K (.ref C_BadSize) (.ref C_BadSize) = some true)
    (k_BadSize_BadNumber : PySem.W.kitOne K (.ref C_BadNumber) (.ref C_BadSize) = some false)
    (k_BadSize_BadStand : PySem.W.kitOne K (.ref C_BadStand) (.ref C_BadSize) = some false)
    (k_BadSize_BadPlace : PySem.W.kitOne K (.ref C_BadPlace) (.ref C_BadSize) = some false)
    (k_BadSize_NoAnswer : PySem.W.kitOne K (.ref C_NoAnswer) (.ref C_BadSize) = some false)
    (k_BadSize_NotAnswer : PySem.W.kitOne K (.ref C_NotAnswer) (.ref C_BadSize) = some false)
    (k_BadSize_NoRoad : PySem.W.kitOne K (.ref C_NoRoad) (.ref C_BadSize) = some false)
    (k_BadSize_NothingToUndo : PySem.W.kitOne K (.ref C_NothingToUndo) (.ref C_BadSize) = some false)
    (k_BadSize_NothingToRedo : PySem.W.kitOne K (.ref C_NothingToRedo) (.ref C_BadSize) = some false)
    (k_BadSize_BadRoad : PySem.W.kitOne K (.ref C_BadRoad) (.ref C_BadSize) = some false)
    (k_BadSize_BadEntry : PySem.W.kitOne K (.ref C_BadEntry) (.ref C_BadSize) = some false)
    (k_BadSize_BadCall : PySem.W.kitOne K (.ref C_BadCall) (.ref C_BadSize) = some false)
    (k_BadSize_BadText : PySem.W.kitOne K (.ref C_BadText) (.ref C_BadSize) = some false)
    (k_BadNumber_BadSize : PySem.W.kitOne K (.ref C_BadSize) (.ref C_BadNumber) = some false)
    (k_BadNumber_BadNumber : PySem.W.kitOne K (.ref C_BadNumber) (.ref C_BadNumber) = some true)
    (k_BadNumber_BadStand : PySem.W.kitOne K (.ref C_BadStand) (.ref C_BadNumber) = some false)
    (k_BadNumber_BadPlace : PySem.W.kitOne K (.ref C_BadPlace) (.ref C_BadNumber) = some false)
    (k_BadNumber_NoAnswer : PySem.W.kitOne K (.ref C_NoAnswer) (.ref C_BadNumber) = some false)
    (k_BadNumber_NotAnswer : PySem.W.kitOne K (.ref C_NotAnswer) (.ref C_BadNumber) = some false)
    (k_BadNumber_NoRoad : PySem.W.kitOne K (.ref C_NoRoad) (.ref C_BadNumber) = some false)
    (k_BadNumber_NothingToUndo : PySem.W.kitOne K (.ref C_NothingToUndo) (.ref C_BadNumber) = some false)
    (k_BadNumber_NothingToRedo : PySem.W.kitOne K (.ref C_NothingToRedo) (.ref C_BadNumber) = some false)
    (k_BadNumber_BadRoad : PySem.W.kitOne K (.ref C_BadRoad) (.ref C_BadNumber) = some false)
    (k_BadNumber_BadEntry : PySem.W.kitOne K (.ref C_BadEntry) (.ref C_BadNumber) = some false)
    (k_BadNumber_BadCall : PySem.W.kitOne K (.ref C_BadCall) (.ref C_BadNumber) = some false)
    (k_BadNumber_BadText : PySem.W.kitOne K (.ref C_BadText) (.ref C_BadNumber) = some false)
    (k_BadStand_BadSize : PySem.W.kitOne K (.ref C_BadSize) (.ref C_BadStand) = some false)
    (k_BadStand_BadNumber : PySem.W.kitOne K (.ref C_BadNumber) (.ref C_BadStand) = some false)
    (k_BadStand_BadStand : PySem.W.kitOne K (.ref C_BadStand) (.ref C_BadStand) = some true)
    (k_BadStand_BadPlace : PySem.W.kitOne K (.ref C_BadPlace) (.ref C_BadStand) = some false)
    (k_BadStand_NoAnswer : PySem.W.kitOne K (.ref C_NoAnswer) (.ref C_BadStand) = some false)
    (k_BadStand_NotAnswer : PySem.W.kitOne K (.ref C_NotAnswer) (.ref C_BadStand) = some false)
    (k_BadStand_NoRoad : PySem.W.kitOne K (.ref C_NoRoad) (.ref C_BadStand) = some false)
    (k_BadStand_NothingToUndo : PySem.W.kitOne K (.ref C_NothingToUndo) (.ref C_BadStand) = some false)
    (k_BadStand_NothingToRedo : PySem.W.kitOne K (.ref C_NothingToRedo) (.ref C_BadStand) = some false)
    (k_BadStand_BadRoad : PySem.W.kitOne K (.ref C_BadRoad) (.ref C_BadStand) = some false)
    (k_BadStand_BadEntry : PySem.W.kitOne K (.ref C_BadEntry) (.ref C_BadStand) = some false)
    (k_BadStand_BadCall : PySem.W.kitOne K (.ref C_BadCall) (.ref C_BadStand) = some false)
    (k_BadStand_BadText : PySem.W.kitOne K (.ref C_BadText) (.ref C_BadStand) = some false)
    (k_BadPlace_BadSize : PySem.W.kitOne K (.ref C_BadSize) (.ref C_BadPlace) = some false)
    (k_BadPlace_BadNumber : PySem.W.kitOne K (.ref C_BadNumber) (.ref C_BadPlace) = some false)
    (k_BadPlace_BadStand : PySem.W.kitOne K (.ref C_BadStand) (.ref C_BadPlace) = some false)
    (k_BadPlace_BadPlace : PySem.W.kitOne K (.ref C_BadPlace) (.ref C_BadPlace) = some true)
    (k_BadPlace_NoAnswer : PySem.W.kitOne K (.ref C_NoAnswer) (.ref C_BadPlace) = some false)
    (k_BadPlace_NotAnswer : PySem.W.kitOne K (.ref C_NotAnswer) (.ref C_BadPlace) = some false)
    (k_BadPlace_NoRoad : PySem.W.kitOne K (.ref C_NoRoad) (.ref C_BadPlace) = some false)
    (k_BadPlace_NothingToUndo : PySem.W.kitOne K (.ref C_NothingToUndo) (.ref C_BadPlace) = some false)
    (k_BadPlace_NothingToRedo : PySem.W.kitOne K (.ref C_NothingToRedo) (.ref C_BadPlace) = some false)
    (k_BadPlace_BadRoad : PySem.W.kitOne K (.ref C_BadRoad) (.ref C_BadPlace) = some false)
    (k_BadPlace_BadEntry : PySem.W.kitOne K (.ref C_BadEntry) (.ref C_BadPlace) = some false)
    (k_BadPlace_BadCall : PySem.W.kitOne K (.ref C_BadCall) (.ref C_BadPlace) = some false)
    (k_BadPlace_BadText : PySem.W.kitOne K (.ref C_BadText) (.ref C_BadPlace) = some false)
    (k_NoAnswer_BadSize : PySem.W.kitOne K (.ref C_BadSize) (.ref C_NoAnswer) = some false)
    (k_NoAnswer_BadNumber : PySem.W.kitOne K (.ref C_BadNumber) (.ref C_NoAnswer) = some false)
    (k_NoAnswer_BadStand : PySem.W.kitOne K (.ref C_BadStand) (.ref C_NoAnswer) = some false)
    (k_NoAnswer_BadPlace : PySem.W.kitOne K (.ref C_BadPlace) (.ref C_NoAnswer) = some false)
    (k_NoAnswer_NoAnswer : PySem.W.kitOne K (.ref C_NoAnswer) (.ref C_NoAnswer) = some true)
    (k_NoAnswer_NotAnswer : PySem.W.kitOne K (.ref C_NotAnswer) (.ref C_NoAnswer) = some false)
    (k_NoAnswer_NoRoad : PySem.W.kitOne K (.ref C_NoRoad) (.ref C_NoAnswer) = some false)
    (k_NoAnswer_NothingToUndo : PySem.W.kitOne K (.ref C_NothingToUndo) (.ref C_NoAnswer) = some false)
    (k_NoAnswer_NothingToRedo : PySem.W.kitOne K (.ref C_NothingToRedo) (.ref C_NoAnswer) = some false)
    (k_NoAnswer_BadRoad : PySem.W.kitOne K (.ref C_BadRoad) (.ref C_NoAnswer) = some false)
    (k_NoAnswer_BadEntry : PySem.W.kitOne K (.ref C_BadEntry) (.ref C_NoAnswer) = some false)
    (k_NoAnswer_BadCall : PySem.W.kitOne K (.ref C_BadCall) (.ref C_NoAnswer) = some false)
    (k_NoAnswer_BadText : PySem.W.kitOne K (.ref C_BadText) (.ref C_NoAnswer) = some false)
    (k_NotAnswer_BadSize : PySem.W.kitOne K (.ref C_BadSize) (.ref C_NotAnswer) = some false)
    (k_NotAnswer_BadNumber : PySem.W.kitOne K (.ref C_BadNumber) (.ref C_NotAnswer) = some false)
    (k_NotAnswer_BadStand : PySem.W.kitOne K (.ref C_BadStand) (.ref C_NotAnswer) = some false)
    (k_NotAnswer_BadPlace : PySem.W.kitOne K (.ref C_BadPlace) (.ref C_NotAnswer) = some false)
    (k_NotAnswer_NoAnswer : PySem.W.kitOne K (.ref C_NoAnswer) (.ref C_NotAnswer) = some false)
    (k_NotAnswer_NotAnswer : PySem.W.kitOne K (.ref C_NotAnswer) (.ref C_NotAnswer) = some true)
    (k_NotAnswer_NoRoad : PySem.W.kitOne K (.ref C_NoRoad) (.ref C_NotAnswer) = some false)
    (k_NotAnswer_NothingToUndo : PySem.W.kitOne K (.ref C_NothingToUndo) (.ref C_NotAnswer) = some false)
    (k_NotAnswer_NothingToRedo : PySem.W.kitOne K (.ref C_NothingToRedo) (.ref C_NotAnswer) = some false)
    (k_NotAnswer_BadRoad : PySem.W.kitOne K (.ref C_BadRoad) (.ref C_NotAnswer) = some false)
    (k_NotAnswer_BadEntry : PySem.W.kitOne K (.ref C_BadEntry) (.ref C_NotAnswer) = some false)
    (k_NotAnswer_BadCall : PySem.W.kitOne K (.ref C_BadCall) (.ref C_NotAnswer) = some false)
    (k_NotAnswer_BadText : PySem.W.kitOne K (.ref C_BadText) (.ref C_NotAnswer) = some false)
    (k_NoRoad_BadSize : PySem.W.kitOne K (.ref C_BadSize) (.ref C_NoRoad) = some false)
    (k_NoRoad_BadNumber : PySem.W.kitOne K (.ref C_BadNumber) (.ref C_NoRoad) = some false)
    (k_NoRoad_BadStand : PySem.W.kitOne K (.ref C_BadStand) (.ref C_NoRoad) = some false)
    (k_NoRoad_BadPlace : PySem.W.kitOne K (.ref C_BadPlace) (.ref C_NoRoad) = some false)
    (k_NoRoad_NoAnswer : PySem.W.kitOne K (.ref C_NoAnswer) (.ref C_NoRoad) = some false)
    (k_NoRoad_NotAnswer : PySem.W.kitOne K (.ref C_NotAnswer) (.ref C_NoRoad) = some false)
    (k_NoRoad_NoRoad : PySem.W.kitOne K (.ref C_NoRoad) (.ref C_NoRoad) = some true)
    (k_NoRoad_NothingToUndo : PySem.W.kitOne K (.ref C_NothingToUndo) (.ref C_NoRoad) = some false)
    (k_NoRoad_NothingToRedo : PySem.W.kitOne K (.ref C_NothingToRedo) (.ref C_NoRoad) = some false)
    (k_NoRoad_BadRoad : PySem.W.kitOne K (.ref C_BadRoad) (.ref C_NoRoad) = some false)
    (k_NoRoad_BadEntry : PySem.W.kitOne K (.ref C_BadEntry) (.ref C_NoRoad) = some false)
    (k_NoRoad_BadCall : PySem.W.kitOne K (.ref C_BadCall) (.ref C_NoRoad) = some false)
    (k_NoRoad_BadText : PySem.W.kitOne K (.ref C_BadText) (.ref C_NoRoad) = some false)
    (k_NothingToUndo_BadSize : PySem.W.kitOne K (.ref C_BadSize) (.ref C_NothingToUndo) = some false)
    (k_NothingToUndo_BadNumber : PySem.W.kitOne K (.ref C_BadNumber) (.ref C_NothingToUndo) = some false)
    (k_NothingToUndo_BadStand : PySem.W.kitOne K (.ref C_BadStand) (.ref C_NothingToUndo) = some false)
    (k_NothingToUndo_BadPlace : PySem.W.kitOne K (.ref C_BadPlace) (.ref C_NothingToUndo) = some false)
    (k_NothingToUndo_NoAnswer : PySem.W.kitOne K (.ref C_NoAnswer) (.ref C_NothingToUndo) = some false)
    (k_NothingToUndo_NotAnswer : PySem.W.kitOne K (.ref C_NotAnswer) (.ref C_NothingToUndo) = some false)
    (k_NothingToUndo_NoRoad : PySem.W.kitOne K (.ref C_NoRoad) (.ref C_NothingToUndo) = some false)
    (k_NothingToUndo_NothingToUndo : PySem.W.kitOne K (.ref C_NothingToUndo) (.ref C_NothingToUndo) = some true)
    (k_NothingToUndo_NothingToRedo : PySem.W.kitOne K (.ref C_NothingToRedo) (.ref C_NothingToUndo) = some false)
    (k_NothingToUndo_BadRoad : PySem.W.kitOne K (.ref C_BadRoad) (.ref C_NothingToUndo) = some false)
    (k_NothingToUndo_BadEntry : PySem.W.kitOne K (.ref C_BadEntry) (.ref C_NothingToUndo) = some false)
    (k_NothingToUndo_BadCall : PySem.W.kitOne K (.ref C_BadCall) (.ref C_NothingToUndo) = some false)
    (k_NothingToUndo_BadText : PySem.W.kitOne K (.ref C_BadText) (.ref C_NothingToUndo) = some false)
    (k_NothingToRedo_BadSize : PySem.W.kitOne K (.ref C_BadSize) (.ref C_NothingToRedo) = some false)
    (k_NothingToRedo_BadNumber : PySem.W.kitOne K (.ref C_BadNumber) (.ref C_NothingToRedo) = some false)
    (k_NothingToRedo_BadStand : PySem.W.kitOne K (.ref C_BadStand) (.ref C_NothingToRedo) = some false)
    (k_NothingToRedo_BadPlace : PySem.W.kitOne K (.ref C_BadPlace) (.ref C_NothingToRedo) = some false)
    (k_NothingToRedo_NoAnswer : PySem.W.kitOne K (.ref C_NoAnswer) (.ref C_NothingToRedo) = some false)
    (k_NothingToRedo_NotAnswer : PySem.W.kitOne K (.ref C_NotAnswer) (.ref C_NothingToRedo) = some false)
    (k_NothingToRedo_NoRoad : PySem.W.kitOne K (.ref C_NoRoad) (.ref C_NothingToRedo) = some false)
    (k_NothingToRedo_NothingToUndo : PySem.W.kitOne K (.ref C_NothingToUndo) (.ref C_NothingToRedo) = some false)
    (k_NothingToRedo_NothingToRedo : PySem.W.kitOne K (.ref C_NothingToRedo) (.ref C_NothingToRedo) = some true)
    (k_NothingToRedo_BadRoad : PySem.W.kitOne K (.ref C_BadRoad) (.ref C_NothingToRedo) = some false)
    (k_NothingToRedo_BadEntry : PySem.W.kitOne K (.ref C_BadEntry) (.ref C_NothingToRedo) = some false)
    (k_NothingToRedo_BadCall : PySem.W.kitOne K (.ref C_BadCall) (.ref C_NothingToRedo) = some false)
    (k_NothingToRedo_BadText : PySem.W.kitOne K (.ref C_BadText) (.ref C_NothingToRedo) = some false)
    (k_BadRoad_BadSize : PySem.W.kitOne K (.ref C_BadSize) (.ref C_BadRoad) = some false)
    (k_BadRoad_BadNumber : PySem.W.kitOne K (.ref C_BadNumber) (.ref C_BadRoad) = some false)
    (k_BadRoad_BadStand : PySem.W.kitOne K (.ref C_BadStand) (.ref C_BadRoad) = some false)
    (k_BadRoad_BadPlace : PySem.W.kitOne K (.ref C_BadPlace) (.ref C_BadRoad) = some false)
    (k_BadRoad_NoAnswer : PySem.W.kitOne K (.ref C_NoAnswer) (.ref C_BadRoad) = some false)
    (k_BadRoad_NotAnswer : PySem.W.kitOne K (.ref C_NotAnswer) (.ref C_BadRoad) = some false)
    (k_BadRoad_NoRoad : PySem.W.kitOne K (.ref C_NoRoad) (.ref C_BadRoad) = some false)
    (k_BadRoad_NothingToUndo : PySem.W.kitOne K (.ref C_NothingToUndo) (.ref C_BadRoad) = some false)
    (k_BadRoad_NothingToRedo : PySem.W.kitOne K (.ref C_NothingToRedo) (.ref C_BadRoad) = some false)
    (k_BadRoad_BadRoad : PySem.W.kitOne K (.ref C_BadRoad) (.ref C_BadRoad) = some true)
    (k_BadRoad_BadEntry : PySem.W.kitOne K (.ref C_BadEntry) (.ref C_BadRoad) = some false)
    (k_BadRoad_BadCall : PySem.W.kitOne K (.ref C_BadCall) (.ref C_BadRoad) = some false)
    (k_BadRoad_BadText : PySem.W.kitOne K (.ref C_BadText) (.ref C_BadRoad) = some false)
    (k_BadEntry_BadSize : PySem.W.kitOne K (.ref C_BadSize) (.ref C_BadEntry) = some false)
    (k_BadEntry_BadNumber : PySem.W.kitOne K (.ref C_BadNumber) (.ref C_BadEntry) = some false)
    (k_BadEntry_BadStand : PySem.W.kitOne K (.ref C_BadStand) (.ref C_BadEntry) = some false)
    (k_BadEntry_BadPlace : PySem.W.kitOne K (.ref C_BadPlace) (.ref C_BadEntry) = some false)
    (k_BadEntry_NoAnswer : PySem.W.kitOne K (.ref C_NoAnswer) (.ref C_BadEntry) = some false)
    (k_BadEntry_NotAnswer : PySem.W.kitOne K (.ref C_NotAnswer) (.ref C_BadEntry) = some false)
    (k_BadEntry_NoRoad : PySem.W.kitOne K (.ref C_NoRoad) (.ref C_BadEntry) = some false)
    (k_BadEntry_NothingToUndo : PySem.W.kitOne K (.ref C_NothingToUndo) (.ref C_BadEntry) = some false)
    (k_BadEntry_NothingToRedo : PySem.W.kitOne K (.ref C_NothingToRedo) (.ref C_BadEntry) = some false)
    (k_BadEntry_BadRoad : PySem.W.kitOne K (.ref C_BadRoad) (.ref C_BadEntry) = some false)
    (k_BadEntry_BadEntry : PySem.W.kitOne K (.ref C_BadEntry) (.ref C_BadEntry) = some true)
    (k_BadEntry_BadCall : PySem.W.kitOne K (.ref C_BadCall) (.ref C_BadEntry) = some false)
    (k_BadEntry_BadText : PySem.W.kitOne K (.ref C_BadText) (.ref C_BadEntry) = some false)
    (k_BadCall_BadSize : PySem.W.kitOne K (.ref C_BadSize) (.ref C_BadCall) = some false)
    (k_BadCall_BadNumber : PySem.W.kitOne K (.ref C_BadNumber) (.ref C_BadCall) = some false)
    (k_BadCall_BadStand : PySem.W.kitOne K (.ref C_BadStand) (.ref C_BadCall) = some false)
    (k_BadCall_BadPlace : PySem.W.kitOne K (.ref C_BadPlace) (.ref C_BadCall) = some false)
    (k_BadCall_NoAnswer : PySem.W.kitOne K (.ref C_NoAnswer) (.ref C_BadCall) = some false)
    (k_BadCall_NotAnswer : PySem.W.kitOne K (.ref C_NotAnswer) (.ref C_BadCall) = some false)
    (k_BadCall_NoRoad : PySem.W.kitOne K (.ref C_NoRoad) (.ref C_BadCall) = some false)
    (k_BadCall_NothingToUndo : PySem.W.kitOne K (.ref C_NothingToUndo) (.ref C_BadCall) = some false)
    (k_BadCall_NothingToRedo : PySem.W.kitOne K (.ref C_NothingToRedo) (.ref C_BadCall) = some false)
    (k_BadCall_BadRoad : PySem.W.kitOne K (.ref C_BadRoad) (.ref C_BadCall) = some false)
    (k_BadCall_BadEntry : PySem.W.kitOne K (.ref C_BadEntry) (.ref C_BadCall) = some false)
    (k_BadCall_BadCall : PySem.W.kitOne K (.ref C_BadCall) (.ref C_BadCall) = some true)
    (k_BadCall_BadText : PySem.W.kitOne K (.ref C_BadText) (.ref C_BadCall) = some false)
    (k_BadText_BadSize : PySem.W.kitOne K (.ref C_BadSize) (.ref C_BadText) = some false)
    (k_BadText_BadNumber : PySem.W.kitOne K (.ref C_BadNumber) (.ref C_BadText) = some false)
    (k_BadText_BadStand : PySem.W.kitOne K (.ref C_BadStand) (.ref C_BadText) = some false)
    (k_BadText_BadPlace : PySem.W.kitOne K (.ref C_BadPlace) (.ref C_BadText) = some false)
    (k_BadText_NoAnswer : PySem.W.kitOne K (.ref C_NoAnswer) (.ref C_BadText) = some false)
    (k_BadText_NotAnswer : PySem.W.kitOne K (.ref C_NotAnswer) (.ref C_BadText) = some false)
    (k_BadText_NoRoad : PySem.W.kitOne K (.ref C_NoRoad) (.ref C_BadText) = some false)
    (k_BadText_NothingToUndo : PySem.W.kitOne K (.ref C_NothingToUndo) (.ref C_BadText) = some false)
    (k_BadText_NothingToRedo : PySem.W.kitOne K (.ref C_NothingToRedo) (.ref C_BadText) = some false)
    (k_BadText_BadRoad : PySem.W.kitOne K (.ref C_BadRoad) (.ref C_BadText) = some false)
    (k_BadText_BadEntry : PySem.W.kitOne K (.ref C_BadEntry) (.ref C_BadText) = some false)
    (k_BadText_BadCall : PySem.W.kitOne K (.ref C_BadCall) (.ref C_BadText) = some false)
    (k_BadText_BadText : PySem.W.kitOne K (.ref C_BadText) (.ref C_BadText) = some true)
    (k_NearError_BadSize : PySem.W.kitOne K (.ref C_BadSize) (.ref C_NearError) = some true)
    (k_NearError_BadNumber : PySem.W.kitOne K (.ref C_BadNumber) (.ref C_NearError) = some true)
    (k_NearError_BadStand : PySem.W.kitOne K (.ref C_BadStand) (.ref C_NearError) = some true)
    (k_NearError_BadPlace : PySem.W.kitOne K (.ref C_BadPlace) (.ref C_NearError) = some true)
    (k_NearError_NoAnswer : PySem.W.kitOne K (.ref C_NoAnswer) (.ref C_NearError) = some true)
    (k_NearError_NotAnswer : PySem.W.kitOne K (.ref C_NotAnswer) (.ref C_NearError) = some true)
    (k_NearError_NoRoad : PySem.W.kitOne K (.ref C_NoRoad) (.ref C_NearError) = some true)
    (k_NearError_NothingToUndo : PySem.W.kitOne K (.ref C_NothingToUndo) (.ref C_NearError) = some true)
    (k_NearError_NothingToRedo : PySem.W.kitOne K (.ref C_NothingToRedo) (.ref C_NearError) = some true)
    (k_NearError_BadRoad : PySem.W.kitOne K (.ref C_BadRoad) (.ref C_NearError) = some true)
    (k_NearError_BadEntry : PySem.W.kitOne K (.ref C_BadEntry) (.ref C_NearError) = some true)
    (k_NearError_BadCall : PySem.W.kitOne K (.ref C_BadCall) (.ref C_NearError) = some true)
    (k_NearError_BadText : PySem.W.kitOne K (.ref C_BadText) (.ref C_NearError) = some true)
    (k_ValueError_BadSize : PySem.W.kitOne K (.ref C_BadSize) (.type "ValueError") = some true)
    (k_ValueError_BadNumber : PySem.W.kitOne K (.ref C_BadNumber) (.type "ValueError") = some true)
    (k_ValueError_BadStand : PySem.W.kitOne K (.ref C_BadStand) (.type "ValueError") = some true)
    (k_ValueError_BadPlace : PySem.W.kitOne K (.ref C_BadPlace) (.type "ValueError") = some true)
    (k_ValueError_NoAnswer : PySem.W.kitOne K (.ref C_NoAnswer) (.type "ValueError") = some true)
    (k_ValueError_NotAnswer : PySem.W.kitOne K (.ref C_NotAnswer) (.type "ValueError") = some true)
    (k_ValueError_NoRoad : PySem.W.kitOne K (.ref C_NoRoad) (.type "ValueError") = some true)
    (k_ValueError_NothingToUndo : PySem.W.kitOne K (.ref C_NothingToUndo) (.type "ValueError") = some true)
    (k_ValueError_NothingToRedo : PySem.W.kitOne K (.ref C_NothingToRedo) (.type "ValueError") = some true)
    (k_ValueError_BadRoad : PySem.W.kitOne K (.ref C_BadRoad) (.type "ValueError") = some true)
    (k_ValueError_BadEntry : PySem.W.kitOne K (.ref C_BadEntry) (.type "ValueError") = some true)
    (k_ValueError_BadCall : PySem.W.kitOne K (.ref C_BadCall) (.type "ValueError") = some true)
    (k_ValueError_BadText : PySem.W.kitOne K (.ref C_BadText) (.type "ValueError") = some true)
    (x_BadSize : PySem.W.excIn K C_BadSize [.type "ValueError", .type "Exception", .type "BaseException", .type "object"] "ValueError.__new__" = true)
    (x_BadNumber : PySem.W.excIn K C_BadNumber [.type "ValueError", .type "Exception", .type "BaseException", .type "object"] "ValueError.__new__" = true)
    (x_BadStand : PySem.W.excIn K C_BadStand [.type "ValueError", .type "Exception", .type "BaseException", .type "object"] "ValueError.__new__" = true)
    (x_BadPlace : PySem.W.excIn K C_BadPlace [.type "ValueError", .type "Exception", .type "BaseException", .type "object"] "ValueError.__new__" = true)
    (x_NoAnswer : PySem.W.excIn K C_NoAnswer [.type "ValueError", .type "Exception", .type "BaseException", .type "object"] "ValueError.__new__" = true)
    (x_NotAnswer : PySem.W.excIn K C_NotAnswer [.type "ValueError", .type "Exception", .type "BaseException", .type "object"] "ValueError.__new__" = true)
    (x_NoRoad : PySem.W.excIn K C_NoRoad [.type "ValueError", .type "Exception", .type "BaseException", .type "object"] "ValueError.__new__" = true)
    (x_NothingToUndo : PySem.W.excIn K C_NothingToUndo [.type "ValueError", .type "Exception", .type "BaseException", .type "object"] "ValueError.__new__" = true)
    (x_NothingToRedo : PySem.W.excIn K C_NothingToRedo [.type "ValueError", .type "Exception", .type "BaseException", .type "object"] "ValueError.__new__" = true)
    (xl_BadRoad : K.lookup C_BadRoad = some (excClassObj nm_BadRoad q_BadRoad C_BadRoad N_BadRoad bs_BadRoad bm_BadRoad true sn_BadRoad sub_BadRoad ab_BadRoad col_BadRoad dd_BadRoad k0_BadRoad k1_BadRoad k2_BadRoad k3_BadRoad k5_BadRoad "ValueError.__new__"))
    (rv_BadRoad : PySem.HandSPX.refsVE bm_BadRoad = true)
    (sa_BadRoad : PySem.W.findIn K (.ref C_BadRoad) "__setattr__" = some (some (.builtin "object.__setattr__")))
    (ty_BadRoad : PySem.W.typeIn K (.ref C_BadRoad) = some (.type "type"))
    (iC_BadRoad : PySem.W.findIn K (.ref C_BadRoad) "__init__" = some (some (.ref fI_BadRoad)))
    (tI_BadRoad : PySem.W.typeIn K (.ref fI_BadRoad) = some (.type "function"))
    (lI_BadRoad : K.lookup fI_BadRoad = some ⟨ocI_BadRoad, odI_BadRoad, .func (PySem.W.fnOf "__init__" "BadRoad.__init__" (defArgs sI_BadRoad) (defBody sI_BadRoad) (defScope sI_BadRoad) .none kVI_BadRoad dcI_BadRoad pmI_BadRoad anI_BadRoad cdI_BadRoad ctI_BadRoad), slI_BadRoad⟩)
    (cI_BadRoad : PySem.W.codeIn K cdI_BadRoad "BadRoad.__init__" = true)
    (kI_BadRoad : PySem.W.keepIn K (.ref fI_BadRoad) = true)
    (no_BadRoad_at : PySem.W.findIn K (.ref C_BadRoad) "at" = some none)
    (xl_BadEntry : K.lookup C_BadEntry = some (excClassObj nm_BadEntry q_BadEntry C_BadEntry N_BadEntry bs_BadEntry bm_BadEntry true sn_BadEntry sub_BadEntry ab_BadEntry col_BadEntry dd_BadEntry k0_BadEntry k1_BadEntry k2_BadEntry k3_BadEntry k5_BadEntry "ValueError.__new__"))
    (rv_BadEntry : PySem.HandSPX.refsVE bm_BadEntry = true)
    (sa_BadEntry : PySem.W.findIn K (.ref C_BadEntry) "__setattr__" = some (some (.builtin "object.__setattr__")))
    (ty_BadEntry : PySem.W.typeIn K (.ref C_BadEntry) = some (.type "type"))
    (iC_BadEntry : PySem.W.findIn K (.ref C_BadEntry) "__init__" = some (some (.ref fI_BadEntry)))
    (tI_BadEntry : PySem.W.typeIn K (.ref fI_BadEntry) = some (.type "function"))
    (lI_BadEntry : K.lookup fI_BadEntry = some ⟨ocI_BadEntry, odI_BadEntry, .func (PySem.W.fnOf "__init__" "BadEntry.__init__" (defArgs sI_BadEntry) (defBody sI_BadEntry) (defScope sI_BadEntry) .none kVI_BadEntry dcI_BadEntry pmI_BadEntry anI_BadEntry cdI_BadEntry ctI_BadEntry), slI_BadEntry⟩)
    (cI_BadEntry : PySem.W.codeIn K cdI_BadEntry "BadEntry.__init__" = true)
    (kI_BadEntry : PySem.W.keepIn K (.ref fI_BadEntry) = true)
    (no_BadEntry_at : PySem.W.findIn K (.ref C_BadEntry) "at" = some none)
    (xl_BadCall : K.lookup C_BadCall = some (excClassObj nm_BadCall q_BadCall C_BadCall N_BadCall bs_BadCall bm_BadCall true sn_BadCall sub_BadCall ab_BadCall col_BadCall dd_BadCall k0_BadCall k1_BadCall k2_BadCall k3_BadCall k5_BadCall "ValueError.__new__"))
    (rv_BadCall : PySem.HandSPX.refsVE bm_BadCall = true)
    (sa_BadCall : PySem.W.findIn K (.ref C_BadCall) "__setattr__" = some (some (.builtin "object.__setattr__")))
    (ty_BadCall : PySem.W.typeIn K (.ref C_BadCall) = some (.type "type"))
    (iC_BadCall : PySem.W.findIn K (.ref C_BadCall) "__init__" = some (some (.ref fI_BadCall)))
    (tI_BadCall : PySem.W.typeIn K (.ref fI_BadCall) = some (.type "function"))
    (lI_BadCall : K.lookup fI_BadCall = some ⟨ocI_BadCall, odI_BadCall, .func (PySem.W.fnOf "__init__" "BadCall.__init__" (defArgs sI_BadCall) (defBody sI_BadCall) (defScope sI_BadCall) .none kVI_BadCall dcI_BadCall pmI_BadCall anI_BadCall cdI_BadCall ctI_BadCall), slI_BadCall⟩)
    (cI_BadCall : PySem.W.codeIn K cdI_BadCall "BadCall.__init__" = true)
    (kI_BadCall : PySem.W.keepIn K (.ref fI_BadCall) = true)
    (no_BadCall_at : PySem.W.findIn K (.ref C_BadCall) "at" = some none)
    (xl_BadText : K.lookup C_BadText = some (excClassObj nm_BadText q_BadText C_BadText N_BadText bs_BadText bm_BadText true sn_BadText sub_BadText ab_BadText col_BadText dd_BadText k0_BadText k1_BadText k2_BadText k3_BadText k5_BadText "ValueError.__new__"))
    (rv_BadText : PySem.HandSPX.refsVE bm_BadText = true)
    (sa_BadText : PySem.W.findIn K (.ref C_BadText) "__setattr__" = some (some (.builtin "object.__setattr__")))
    (ty_BadText : PySem.W.typeIn K (.ref C_BadText) = some (.type "type"))
    (iC_BadText : PySem.W.findIn K (.ref C_BadText) "__init__" = some (some (.ref fI_BadText)))
    (tI_BadText : PySem.W.typeIn K (.ref fI_BadText) = some (.type "function"))
    (lI_BadText : K.lookup fI_BadText = some ⟨ocI_BadText, odI_BadText, .func (PySem.W.fnOf "__init__" "BadText.__init__" (defArgs sI_BadText) (defBody sI_BadText) (defScope sI_BadText) .none kVI_BadText dcI_BadText pmI_BadText anI_BadText cdI_BadText ctI_BadText), slI_BadText⟩)
    (cI_BadText : PySem.W.codeIn K cdI_BadText "BadText.__init__" = true)
    (kI_BadText : PySem.W.keepIn K (.ref fI_BadText) = true)
    (no_BadText_line : PySem.W.findIn K (.ref C_BadText) "line" = some none)
    (no_BadText_column : PySem.W.findIn K (.ref C_BadText) "column" = some none)
    (z0 : PySem.W.nsIn K mainGlobals "range" = some none) (z1 : PySem.W.nsIn K mainGlobals "len" = some none) (z2 : PySem.W.nsIn K mainGlobals "int" = some none) (z3 : PySem.W.nsIn K mainGlobals "isinstance" = some none) (z4 : PySem.W.nsIn K mainGlobals "ValueError" = some none) (z5 : PySem.W.nsIn K mainGlobals "all" = some none) :
    ∃ fd : FuncData, (∀ (s : Shared) (v : Value), BindsTo s fd ⟨[v], []⟩ [("script", v)]) ∧ ∀ base : Heap, K.In base → base.Ns mainGlobals mg → FnG l.prog w K mg base 6 fa fd ["script"] (S_law_k07 ⟨C_BadSize, C_BadNumber, C_BadStand, C_BadPlace, C_NoAnswer, C_NotAnswer, C_NoRoad, C_NothingToUndo, C_NothingToRedo, C_BadRoad, C_BadEntry, C_BadCall, C_BadText, C_NearError⟩) := by
  have B := bn_mk X G a0 l0 c0 k0 a1 l1 c1 k1 a2 l2 c2 k2 a3 l3 c3 k3 a4 l4 c4 k4 ac_BadSize ac_BadNumber ac_BadStand ac_BadPlace ac_NoAnswer ac_NotAnswer ac_NoRoad ac_NothingToUndo ac_NothingToRedo ac_BadRoad ac_BadEntry ac_BadCall ac_BadText ac_NearError ge ta cl_BadSize ga_BadSize gg_BadSize su_BadSize ca_BadSize ob_BadSize hd_BadSize kc_BadSize cl_BadNumber ga_BadNumber gg_BadNumber su_BadNumber ca_BadNumber ob_BadNumber hd_BadNumber kc_BadNumber cl_BadStand ga_BadStand gg_BadStand su_BadStand ca_BadStand ob_BadStand hd_BadStand kc_BadStand cl_BadPlace ga_BadPlace gg_BadPlace su_BadPlace ca_BadPlace ob_BadPlace hd_BadPlace kc_BadPlace cl_NoAnswer ga_NoAnswer gg_NoAnswer su_NoAnswer ca_NoAnswer ob_NoAnswer hd_NoAnswer kc_NoAnswer cl_NotAnswer ga_NotAnswer gg_NotAnswer su_NotAnswer ca_NotAnswer ob_NotAnswer hd_NotAnswer kc_NotAnswer cl_NoRoad ga_NoRoad gg_NoRoad su_NoRoad ca_NoRoad ob_NoRoad hd_NoRoad kc_NoRoad cl_NothingToUndo ga_NothingToUndo gg_NothingToUndo su_NothingToUndo ca_NothingToUndo ob_NothingToUndo hd_NothingToUndo kc_NothingToUndo cl_NothingToRedo ga_NothingToRedo gg_NothingToRedo su_NothingToRedo ca_NothingToRedo ob_NothingToRedo hd_NothingToRedo kc_NothingToRedo cl_BadRoad ga_BadRoad gg_BadRoad su_BadRoad ca_BadRoad ob_BadRoad hd_BadRoad kc_BadRoad cl_BadEntry ga_BadEntry gg_BadEntry su_BadEntry ca_BadEntry ob_BadEntry hd_BadEntry kc_BadEntry cl_BadCall ga_BadCall gg_BadCall su_BadCall ca_BadCall ob_BadCall hd_BadCall kc_BadCall cl_BadText ga_BadText gg_BadText su_BadText ca_BadText ob_BadText hd_BadText kc_BadText k_BadSize_BadSize k_BadSize_BadNumber k_BadSize_BadStand k_BadSize_BadPlace k_BadSize_NoAnswer k_BadSize_NotAnswer k_BadSize_NoRoad k_BadSize_NothingToUndo k_BadSize_NothingToRedo k_BadSize_BadRoad k_BadSize_BadEntry k_BadSize_BadCall k_BadSize_BadText k_BadNumber_BadSize k_BadNumber_BadNumber k_BadNumber_BadStand k_BadNumber_BadPlace k_BadNumber_NoAnswer k_BadNumber_NotAnswer k_BadNumber_NoRoad k_BadNumber_NothingToUndo k_BadNumber_NothingToRedo k_BadNumber_BadRoad k_BadNumber_BadEntry k_BadNumber_BadCall k_BadNumber_BadText k_BadStand_BadSize k_BadStand_BadNumber k_BadStand_BadStand k_BadStand_BadPlace k_BadStand_NoAnswer k_BadStand_NotAnswer k_BadStand_NoRoad k_BadStand_NothingToUndo k_BadStand_NothingToRedo k_BadStand_BadRoad k_BadStand_BadEntry k_BadStand_BadCall k_BadStand_BadText k_BadPlace_BadSize k_BadPlace_BadNumber k_BadPlace_BadStand k_BadPlace_BadPlace k_BadPlace_NoAnswer k_BadPlace_NotAnswer k_BadPlace_NoRoad k_BadPlace_NothingToUndo k_BadPlace_NothingToRedo k_BadPlace_BadRoad k_BadPlace_BadEntry k_BadPlace_BadCall k_BadPlace_BadText k_NoAnswer_BadSize k_NoAnswer_BadNumber k_NoAnswer_BadStand k_NoAnswer_BadPlace k_NoAnswer_NoAnswer k_NoAnswer_NotAnswer k_NoAnswer_NoRoad k_NoAnswer_NothingToUndo k_NoAnswer_NothingToRedo k_NoAnswer_BadRoad k_NoAnswer_BadEntry k_NoAnswer_BadCall k_NoAnswer_BadText k_NotAnswer_BadSize k_NotAnswer_BadNumber k_NotAnswer_BadStand k_NotAnswer_BadPlace k_NotAnswer_NoAnswer k_NotAnswer_NotAnswer k_NotAnswer_NoRoad k_NotAnswer_NothingToUndo k_NotAnswer_NothingToRedo k_NotAnswer_BadRoad k_NotAnswer_BadEntry k_NotAnswer_BadCall k_NotAnswer_BadText k_NoRoad_BadSize k_NoRoad_BadNumber k_NoRoad_BadStand k_NoRoad_BadPlace k_NoRoad_NoAnswer k_NoRoad_NotAnswer k_NoRoad_NoRoad k_NoRoad_NothingToUndo k_NoRoad_NothingToRedo k_NoRoad_BadRoad k_NoRoad_BadEntry k_NoRoad_BadCall k_NoRoad_BadText k_NothingToUndo_BadSize k_NothingToUndo_BadNumber k_NothingToUndo_BadStand k_NothingToUndo_BadPlace k_NothingToUndo_NoAnswer k_NothingToUndo_NotAnswer k_NothingToUndo_NoRoad k_NothingToUndo_NothingToUndo k_NothingToUndo_NothingToRedo k_NothingToUndo_BadRoad k_NothingToUndo_BadEntry k_NothingToUndo_BadCall k_NothingToUndo_BadText k_NothingToRedo_BadSize k_NothingToRedo_BadNumber k_NothingToRedo_BadStand k_NothingToRedo_BadPlace k_NothingToRedo_NoAnswer k_NothingToRedo_NotAnswer k_NothingToRedo_NoRoad k_NothingToRedo_NothingToUndo k_NothingToRedo_NothingToRedo k_NothingToRedo_BadRoad k_NothingToRedo_BadEntry k_NothingToRedo_BadCall k_NothingToRedo_BadText k_BadRoad_BadSize k_BadRoad_BadNumber k_BadRoad_BadStand k_BadRoad_BadPlace k_BadRoad_NoAnswer k_BadRoad_NotAnswer k_BadRoad_NoRoad k_BadRoad_NothingToUndo k_BadRoad_NothingToRedo k_BadRoad_BadRoad k_BadRoad_BadEntry k_BadRoad_BadCall k_BadRoad_BadText k_BadEntry_BadSize k_BadEntry_BadNumber k_BadEntry_BadStand k_BadEntry_BadPlace k_BadEntry_NoAnswer k_BadEntry_NotAnswer k_BadEntry_NoRoad k_BadEntry_NothingToUndo k_BadEntry_NothingToRedo k_BadEntry_BadRoad k_BadEntry_BadEntry k_BadEntry_BadCall k_BadEntry_BadText k_BadCall_BadSize k_BadCall_BadNumber k_BadCall_BadStand k_BadCall_BadPlace k_BadCall_NoAnswer k_BadCall_NotAnswer k_BadCall_NoRoad k_BadCall_NothingToUndo k_BadCall_NothingToRedo k_BadCall_BadRoad k_BadCall_BadEntry k_BadCall_BadCall k_BadCall_BadText k_BadText_BadSize k_BadText_BadNumber k_BadText_BadStand k_BadText_BadPlace k_BadText_NoAnswer k_BadText_NotAnswer k_BadText_NoRoad k_BadText_NothingToUndo k_BadText_NothingToRedo k_BadText_BadRoad k_BadText_BadEntry k_BadText_BadCall k_BadText_BadText k_NearError_BadSize k_NearError_BadNumber k_NearError_BadStand k_NearError_BadPlace k_NearError_NoAnswer k_NearError_NotAnswer k_NearError_NoRoad k_NearError_NothingToUndo k_NearError_NothingToRedo k_NearError_BadRoad k_NearError_BadEntry k_NearError_BadCall k_NearError_BadText k_ValueError_BadSize k_ValueError_BadNumber k_ValueError_BadStand k_ValueError_BadPlace k_ValueError_NoAnswer k_ValueError_NotAnswer k_ValueError_NoRoad k_ValueError_NothingToUndo k_ValueError_NothingToRedo k_ValueError_BadRoad k_ValueError_BadEntry k_ValueError_BadCall k_ValueError_BadText x_BadSize x_BadNumber x_BadStand x_BadPlace x_NoAnswer x_NotAnswer x_NoRoad x_NothingToUndo x_NothingToRedo xl_BadRoad rv_BadRoad sa_BadRoad ty_BadRoad iC_BadRoad tI_BadRoad lI_BadRoad cI_BadRoad kI_BadRoad no_BadRoad_at xl_BadEntry rv_BadEntry sa_BadEntry ty_BadEntry iC_BadEntry tI_BadEntry lI_BadEntry cI_BadEntry kI_BadEntry no_BadEntry_at xl_BadCall rv_BadCall sa_BadCall ty_BadCall iC_BadCall tI_BadCall lI_BadCall cI_BadCall kI_BadCall no_BadCall_at xl_BadText rv_BadText sa_BadText ty_BadText iC_BadText tI_BadText lI_BadText cI_BadText kI_BadText no_BadText_line no_BadText_column z0 z1 z2 z3 z4 z5
  have e := hfa.symm.trans (PySem.W.mg_of X G a4)
  cases e
  refine ⟨_, fun s v => .of_eq rfl, fun base _ _ => ok_law (bn_mk X G a0 l0 c0 k0 a1 l1 c1 k1 a2 l2 c2 k2 a3 l3 c3 k3 a4 l4 c4 k4 ac_BadSize ac_BadNumber ac_BadStand ac_BadPlace ac_NoAnswer ac_NotAnswer ac_NoRoad ac_NothingToUndo ac_NothingToRedo ac_BadRoad ac_BadEntry ac_BadCall ac_BadText ac_NearError ge ta cl_BadSize ga_BadSize gg_BadSize su_BadSize ca_BadSize ob_BadSize hd_BadSize kc_BadSize cl_BadNumber ga_BadNumber gg_BadNumber su_BadNumber ca_BadNumber ob_BadNumber hd_BadNumber kc_BadNumber cl_BadStand ga_BadStand gg_BadStand su_BadStand ca_BadStand ob_BadStand hd_BadStand kc_BadStand cl_BadPlace ga_BadPlace gg_BadPlace su_BadPlace ca_BadPlace ob_BadPlace hd_BadPlace kc_BadPlace cl_NoAnswer ga_NoAnswer gg_NoAnswer su_NoAnswer ca_NoAnswer ob_NoAnswer hd_NoAnswer kc_NoAnswer cl_NotAnswer ga_NotAnswer gg_NotAnswer su_NotAnswer ca_NotAnswer ob_NotAnswer hd_NotAnswer kc_NotAnswer cl_NoRoad ga_NoRoad gg_NoRoad su_NoRoad ca_NoRoad ob_NoRoad hd_NoRoad kc_NoRoad cl_NothingToUndo ga_NothingToUndo gg_NothingToUndo su_NothingToUndo ca_NothingToUndo ob_NothingToUndo hd_NothingToUndo kc_NothingToUndo cl_NothingToRedo ga_NothingToRedo gg_NothingToRedo su_NothingToRedo ca_NothingToRedo ob_NothingToRedo hd_NothingToRedo kc_NothingToRedo cl_BadRoad ga_BadRoad gg_BadRoad su_BadRoad ca_BadRoad ob_BadRoad hd_BadRoad kc_BadRoad cl_BadEntry ga_BadEntry gg_BadEntry su_BadEntry ca_BadEntry ob_BadEntry hd_BadEntry kc_BadEntry cl_BadCall ga_BadCall gg_BadCall su_BadCall ca_BadCall ob_BadCall hd_BadCall kc_BadCall cl_BadText ga_BadText gg_BadText su_BadText ca_BadText ob_BadText hd_BadText kc_BadText k_BadSize_BadSize k_BadSize_BadNumber k_BadSize_BadStand k_BadSize_BadPlace k_BadSize_NoAnswer k_BadSize_NotAnswer k_BadSize_NoRoad k_BadSize_NothingToUndo k_BadSize_NothingToRedo k_BadSize_BadRoad k_BadSize_BadEntry k_BadSize_BadCall k_BadSize_BadText k_BadNumber_BadSize k_BadNumber_BadNumber k_BadNumber_BadStand k_BadNumber_BadPlace k_BadNumber_NoAnswer k_BadNumber_NotAnswer k_BadNumber_NoRoad k_BadNumber_NothingToUndo k_BadNumber_NothingToRedo k_BadNumber_BadRoad k_BadNumber_BadEntry k_BadNumber_BadCall k_BadNumber_BadText k_BadStand_BadSize k_BadStand_BadNumber k_BadStand_BadStand k_BadStand_BadPlace k_BadStand_NoAnswer k_BadStand_NotAnswer k_BadStand_NoRoad k_BadStand_NothingToUndo k_BadStand_NothingToRedo k_BadStand_BadRoad k_BadStand_BadEntry k_BadStand_BadCall k_BadStand_BadText k_BadPlace_BadSize k_BadPlace_BadNumber k_BadPlace_BadStand k_BadPlace_BadPlace k_BadPlace_NoAnswer k_BadPlace_NotAnswer k_BadPlace_NoRoad k_BadPlace_NothingToUndo k_BadPlace_NothingToRedo k_BadPlace_BadRoad k_BadPlace_BadEntry k_BadPlace_BadCall k_BadPlace_BadText k_NoAnswer_BadSize k_NoAnswer_BadNumber k_NoAnswer_BadStand k_NoAnswer_BadPlace k_NoAnswer_NoAnswer k_NoAnswer_NotAnswer k_NoAnswer_NoRoad k_NoAnswer_NothingToUndo k_NoAnswer_NothingToRedo k_NoAnswer_BadRoad k_NoAnswer_BadEntry k_NoAnswer_BadCall k_NoAnswer_BadText k_NotAnswer_BadSize k_NotAnswer_BadNumber k_NotAnswer_BadStand k_NotAnswer_BadPlace k_NotAnswer_NoAnswer k_NotAnswer_NotAnswer k_NotAnswer_NoRoad k_NotAnswer_NothingToUndo k_NotAnswer_NothingToRedo k_NotAnswer_BadRoad k_NotAnswer_BadEntry k_NotAnswer_BadCall k_NotAnswer_BadText k_NoRoad_BadSize k_NoRoad_BadNumber k_NoRoad_BadStand k_NoRoad_BadPlace k_NoRoad_NoAnswer k_NoRoad_NotAnswer k_NoRoad_NoRoad k_NoRoad_NothingToUndo k_NoRoad_NothingToRedo k_NoRoad_BadRoad k_NoRoad_BadEntry k_NoRoad_BadCall k_NoRoad_BadText k_NothingToUndo_BadSize k_NothingToUndo_BadNumber k_NothingToUndo_BadStand k_NothingToUndo_BadPlace k_NothingToUndo_NoAnswer k_NothingToUndo_NotAnswer k_NothingToUndo_NoRoad k_NothingToUndo_NothingToUndo k_NothingToUndo_NothingToRedo k_NothingToUndo_BadRoad k_NothingToUndo_BadEntry k_NothingToUndo_BadCall k_NothingToUndo_BadText k_NothingToRedo_BadSize k_NothingToRedo_BadNumber k_NothingToRedo_BadStand k_NothingToRedo_BadPlace k_NothingToRedo_NoAnswer k_NothingToRedo_NotAnswer k_NothingToRedo_NoRoad k_NothingToRedo_NothingToUndo k_NothingToRedo_NothingToRedo k_NothingToRedo_BadRoad k_NothingToRedo_BadEntry k_NothingToRedo_BadCall k_NothingToRedo_BadText k_BadRoad_BadSize k_BadRoad_BadNumber k_BadRoad_BadStand k_BadRoad_BadPlace k_BadRoad_NoAnswer k_BadRoad_NotAnswer k_BadRoad_NoRoad k_BadRoad_NothingToUndo k_BadRoad_NothingToRedo k_BadRoad_BadRoad k_BadRoad_BadEntry k_BadRoad_BadCall k_BadRoad_BadText k_BadEntry_BadSize k_BadEntry_BadNumber k_BadEntry_BadStand k_BadEntry_BadPlace k_BadEntry_NoAnswer k_BadEntry_NotAnswer k_BadEntry_NoRoad k_BadEntry_NothingToUndo k_BadEntry_NothingToRedo k_BadEntry_BadRoad k_BadEntry_BadEntry k_BadEntry_BadCall k_BadEntry_BadText k_BadCall_BadSize k_BadCall_BadNumber k_BadCall_BadStand k_BadCall_BadPlace k_BadCall_NoAnswer k_BadCall_NotAnswer k_BadCall_NoRoad k_BadCall_NothingToUndo k_BadCall_NothingToRedo k_BadCall_BadRoad k_BadCall_BadEntry k_BadCall_BadCall k_BadCall_BadText k_BadText_BadSize k_BadText_BadNumber k_BadText_BadStand k_BadText_BadPlace k_BadText_NoAnswer k_BadText_NotAnswer k_BadText_NoRoad k_BadText_NothingToUndo k_BadText_NothingToRedo k_BadText_BadRoad k_BadText_BadEntry k_BadText_BadCall k_BadText_BadText k_NearError_BadSize k_NearError_BadNumber k_NearError_BadStand k_NearError_BadPlace k_NearError_NoAnswer k_NearError_NotAnswer k_NearError_NoRoad k_NearError_NothingToUndo k_NearError_NothingToRedo k_NearError_BadRoad k_NearError_BadEntry k_NearError_BadCall k_NearError_BadText k_ValueError_BadSize k_ValueError_BadNumber k_ValueError_BadStand k_ValueError_BadPlace k_ValueError_NoAnswer k_ValueError_NotAnswer k_ValueError_NoRoad k_ValueError_NothingToUndo k_ValueError_NothingToRedo k_ValueError_BadRoad k_ValueError_BadEntry k_ValueError_BadCall k_ValueError_BadText x_BadSize x_BadNumber x_BadStand x_BadPlace x_NoAnswer x_NotAnswer x_NoRoad x_NothingToUndo x_NothingToRedo xl_BadRoad rv_BadRoad sa_BadRoad ty_BadRoad iC_BadRoad tI_BadRoad lI_BadRoad cI_BadRoad kI_BadRoad no_BadRoad_at xl_BadEntry rv_BadEntry sa_BadEntry ty_BadEntry iC_BadEntry tI_BadEntry lI_BadEntry cI_BadEntry kI_BadEntry no_BadEntry_at xl_BadCall rv_BadCall sa_BadCall ty_BadCall iC_BadCall tI_BadCall lI_BadCall cI_BadCall kI_BadCall no_BadCall_at xl_BadText rv_BadText sa_BadText ty_BadText iC_BadText tI_BadText lI_BadText cI_BadText kI_BadText no_BadText_line no_BadText_column z0 z1 z2 z3 z4 z5)⟩
end Gk07
namespace Dn
open PySem PySem.Spec L2
abbrev dInts (ns : List Int) : List PyData := ns.map PyData.int
theorem grd_dec {α : Type} {p : Prop} [Decidable p] {r : Rs α} (h : p) : grd (decide p) r = r := by rw [decide_eq_true h]; rfl
theorem atI_map {α : Type} {f : α → PyData} {xs : List α} {k : Int} (d : α) (h0 : 0 ≤ k) (h1 : k < xs.length) : atI (xs.map f) k = some (f (xs.getD k.toNat d)) := by
  unfold atI ixN
  have hk : k.toNat < xs.length := by omega
  rw [if_pos h0, List.length_map, if_pos h1]
  show (xs.map f)[k.toNat]? = _
  rw [List.getElem?_map, List.getElem?_eq_getElem hk, List.getD_eq_getElem?_getD, List.getElem?_eq_getElem hk]
  rfl
theorem atI_ints {ns : List Int} {k : Int} (h0 : 0 ≤ k) (h1 : k < ns.length) : atI (ns.map PyData.int) k = some (.int (ns.getD k.toNat 0)) := atI_map 0 h0 h1
theorem ixN_pos {n : Nat} {k : Int} (h0 : 0 ≤ k) (h1 : k < n) : ixN n k = some k.toNat := by unfold ixN; rw [if_pos h0, if_pos h1]
theorem set_map {α β : Type} (f : α → β) (xs : List α) (i : Nat) (x : α) : (xs.map f).set i (f x) = (xs.set i x).map f := by
  rw [List.map_set]
theorem range_get {c i : Nat} {x : Dv} {lo : Int} (h : ((List.range c).map fun (i : Nat) => ((true, PyData.int (lo + i)) : Dv))[i]? = some x) : i < c ∧ x = (true, .int (lo + i)) := by
  rw [List.getElem?_map] at h
  by_cases hi : i < c
  · rw [List.getElem?_range hi] at h; cases h; exact ⟨hi, rfl⟩
  · rw [List.getElem?_eq_none (by simpa using hi)] at h; cases h
theorem flags_all {α : Type} (f : α → PyData) (xs : List α) : flags (xs.map fun x => (true, f x)) = true := by
  unfold flags; rw [List.all_map]; exact List.all_eq_true.mpr fun _ _ => rfl
theorem datas_all {α : Type} (n : Bool) (f : α → PyData) (xs : List α) : datas (xs.map fun x => (n, f x)) = xs.map f := by
  unfold datas; rw [List.map_map]; rfl
def drawNext (r : Int) (a k : Int) : Int := (((r * 48271 + k * 69621 + 11) % 2147483647) * 16807 + a) % 2147483629 / 7 % 1000
def drawStep (st : List Int × List Int) (k : Nat) : List Int × List Int :=
  if st.1.length = 0 then (st.1, st.2 ++ [0])
  else if 1000000000000000000 ≤ iat st.1 ((k : Int) % (st.1.length : Int)) then (ist st.1 ((k : Int) % (st.1.length : Int)) (iat st.1 ((k : Int) % (st.1.length : Int)) / 1000), st.2 ++ [iat st.1 ((k : Int) % (st.1.length : Int)) % 1000])
  else (st.1, st.2 ++ [drawNext (iat st.1 ((k : Int) % (st.1.length : Int))) ((k : Int) % (st.1.length : Int)) k])
def drawSt (ns : List Int) (k : Nat) : List Int × List Int := (List.range k).foldl drawStep (ns, [])
def draws (ns : List Int) (k : Nat) : List Int := (drawSt ns k).2
theorem drawSt_succ (ns : List Int) (k : Nat) : drawSt ns (k + 1) = drawStep (drawSt ns k) k := by
  unfold drawSt; rw [List.range_succ, List.foldl_append]; rfl
theorem drawStep_len (st : List Int × List Int) (k : Nat) : (drawStep st k).2.length = st.2.length + 1 := by
  unfold drawStep; split
  · simp
  · split <;> simp
theorem draws_len (ns : List Int) : ∀ k, (draws ns k).length = k
  | 0 => rfl
  | k + 1 => by unfold draws; rw [drawSt_succ, drawStep_len]; exact congrArg (· + 1) (draws_len ns k)
theorem draws_in (ns : List Int) : ∀ k, ∀ v ∈ draws ns k, 0 ≤ v ∧ v < 1000
  | 0, v, h => by cases h
  | k + 1, v, h => by
    have ih := draws_in ns k
    unfold draws at h ih
    rw [drawSt_succ] at h
    unfold drawStep drawNext at h
    split at h
    · rcases List.mem_append.mp h with h | h
      · exact ih v h
      · rw [List.mem_singleton.mp h]; omega
    · split at h
      · rcases List.mem_append.mp h with h | h
        · exact ih v h
        · rw [List.mem_singleton.mp h]; omega
      · rcases List.mem_append.mp h with h | h
        · exact ih v h
        · rw [List.mem_singleton.mp h]; omega
abbrev dE (ns : List Int) (c : Int) (rs as : List Int) : Dn.Env := [some (.sh false (.list (ns.map .int))), some (.sh true (.int c)), some (.ow true (rs.map .int)), some (.ow true (as.map .int)), none, none, none, none, none]
theorem draws_turn (ns : List Int) (c : Int) (rs as : List Int) (i : Nat) (hi : i < 1000) (hl : as.length = i) :
    (gN 4 (true, .int (i : Int)) (dE ns c rs as)).bind l1_law_draws = .ok (.nx (dE ns c (drawStep (rs, as) i).1 (drawStep (rs, as) i).2)) := by
  rw [turn_eq]
  unfold drawStep l1_law_draws
  by_cases h0 : rs.length = 0
  · simp (disch := omega) [h0]
  · have p0 : 0 ≤ (i : Int) % (rs.length : Int) := Int.emod_nonneg _ (by omega)
    have p1 : (i : Int) % (rs.length : Int) < rs.length := Int.emod_lt_of_pos _ (by omega)
    rw [if_neg h0]
    by_cases h1 : 1000000000000000000 ≤ iat rs ((i : Int) % (rs.length : Int))
    · rw [if_pos h1]
      simp (disch := omega)
    · rw [if_neg h1]
      simp (disch := omega) [drawNext]
theorem draws_ok (ns : List Int) (c : Nat) (hn : ns.length ≤ 1000000) (hc : c ≤ 1000) : S_law_draws [.list (ns.map .int), .int c] = .ok (.nw true ((draws ns c).map .int)) := by
  unfold S_law_draws
  refine (run_eq (E := [some (.sh false (.list (ns.map .int))), some (.sh true (.int c)), none, none, none, none, none, none, none]) rfl rfl).trans ?_
  unfold b_law_draws
  simp (disch := omega)
  refine cLc_m (c' := .int) (fun n => n) hn rfl rfl rfl (fun n _ => ?_) ?_
  · unfold e1_law_draws; simp [lcE]
  simp (disch := omega)
  refine cL_list (fun i => dE ns c (drawSt ns i).1 (drawSt ns i).2) rfl (fun i y hi => ?_) ?_
  · obtain ⟨hi, rfl⟩ := range_at hi
    rw [drawSt_succ]
    exact draws_turn ns c _ _ _ (by omega) (draws_len ns _)
  · simp [dE]; rfl
end Dn
namespace Dn
open PySem PySem.Spec L2
def srcs (c : CT) : List Addr := [c.BadSize, c.BadNumber, c.BadStand, c.BadPlace, c.NoAnswer, c.NotAnswer, c.NoRoad, c.NothingToUndo, c.NothingToRedo, c.BadRoad, c.BadEntry, c.BadCall, c.BadText]
def tabI (l : List Addr) (s j : Nat) : List (Addr × Bool) := (l.zipIdx s).map fun p => (p.1, decide (p.2 = j))
def tabT (l : List Addr) : List (Addr × Bool) := l.map fun a => (a, true)
section
variable {β : Type} {k : Bool → Rs β} {C : Addr}
theorem tbK_tab {j : Nat} : ∀ (l : List Addr) (s i : Nat), l.Nodup → l[i]? = some C → tbK (tabI l s j) ((C : Nat) : Int) k = k (decide (s + i = j))
  | [], _, _, _, h => by simp at h
  | a :: l, s, 0, _, h => by
    have : a = C := by simpa using h
    subst this
    show tbK ((a, decide (s = j)) :: tabI l (s + 1) j) ((a : Nat) : Int) k = _
    rw [tbK_eq]; rfl
  | a :: l, s, i + 1, hn, h => by
    have h1 : l[i]? = some C := by simpa using h
    have hne : a ≠ C := fun z => (List.nodup_cons.mp hn).1 (by rw [z]; exact List.mem_of_getElem? h1)
    show tbK ((a, decide (s = j)) :: tabI l (s + 1) j) ((C : Nat) : Int) k = _
    rw [tbK_ne hne, tbK_tab l (s + 1) i (List.nodup_cons.mp hn).2 h1, show s + 1 + i = s + (i + 1) by omega]
theorem tbK_tabT : ∀ (l : List Addr) (i : Nat), l.Nodup → l[i]? = some C → tbK (tabT l) ((C : Nat) : Int) k = k true
  | [], _, _, h => by simp at h
  | a :: l, 0, _, h => by
    have : a = C := by simpa using h
    subst this
    show tbK ((a, true) :: tabT l) ((a : Nat) : Int) k = _
    rw [tbK_eq]
  | a :: l, i + 1, hn, h => by
    have h1 : l[i]? = some C := by simpa using h
    have hne : a ≠ C := fun z => (List.nodup_cons.mp hn).1 (by rw [z]; exact List.mem_of_getElem? h1)
    show tbK ((a, true) :: tabT l) ((C : Nat) : Int) k = _
    rw [tbK_ne hne, tbK_tabT l i (List.nodup_cons.mp hn).2 h1]
end
section
variable {c : CT} {C : Addr} {fs : List (Str × Int)} {i : Nat}
def mk13 (i : Nat) : List Bool := (List.range 13).map fun k => decide (i = k)
theorem marks_ok (hc : c.Ok) (h : (srcs c)[i]? = some C) : S_law_marks c [encX C fs] = .ok (.nw true ((mk13 i).map .bool)) := by
  have t0 : ∀ {β : Type} {k : Bool → Rs β}, tbK (tab_BadSize c) ((C : Nat) : Int) k = k (decide (i = 0)) := by
    intro β k
    have := tbK_tab (k := k) (j := 0) (srcs c) 0 i hc h
    rw [Nat.zero_add] at this
    exact this
  have t1 : ∀ {β : Type} {k : Bool → Rs β}, tbK (tab_BadNumber c) ((C : Nat) : Int) k = k (decide (i = 1)) := by
    intro β k
    have := tbK_tab (k := k) (j := 1) (srcs c) 0 i hc h
    rw [Nat.zero_add] at this
    exact this
  have t2 : ∀ {β : Type} {k : Bool → Rs β}, tbK (tab_BadStand c) ((C : Nat) : Int) k = k (decide (i = 2)) := by
    intro β k
    have := tbK_tab (k := k) (j := 2) (srcs c) 0 i hc h
    rw [Nat.zero_add] at this
    exact this
  have t3 : ∀ {β : Type} {k : Bool → Rs β}, tbK (tab_BadPlace c) ((C : Nat) : Int) k = k (decide (i = 3)) := by
    intro β k
    have := tbK_tab (k := k) (j := 3) (srcs c) 0 i hc h
    rw [Nat.zero_add] at this
    exact this
  have t4 : ∀ {β : Type} {k : Bool → Rs β}, tbK (tab_NoAnswer c) ((C : Nat) : Int) k = k (decide (i = 4)) := by
    intro β k
    have := tbK_tab (k := k) (j := 4) (srcs c) 0 i hc h
    rw [Nat.zero_add] at this
    exact this
  have t5 : ∀ {β : Type} {k : Bool → Rs β}, tbK (tab_NotAnswer c) ((C : Nat) : Int) k = k (decide (i = 5)) := by
    intro β k
    have := tbK_tab (k := k) (j := 5) (srcs c) 0 i hc h
    rw [Nat.zero_add] at this
    exact this
  have t6 : ∀ {β : Type} {k : Bool → Rs β}, tbK (tab_NoRoad c) ((C : Nat) : Int) k = k (decide (i = 6)) := by
    intro β k
    have := tbK_tab (k := k) (j := 6) (srcs c) 0 i hc h
    rw [Nat.zero_add] at this
    exact this
  have t7 : ∀ {β : Type} {k : Bool → Rs β}, tbK (tab_NothingToUndo c) ((C : Nat) : Int) k = k (decide (i = 7)) := by
    intro β k
    have := tbK_tab (k := k) (j := 7) (srcs c) 0 i hc h
    rw [Nat.zero_add] at this
    exact this
  have t8 : ∀ {β : Type} {k : Bool → Rs β}, tbK (tab_NothingToRedo c) ((C : Nat) : Int) k = k (decide (i = 8)) := by
    intro β k
    have := tbK_tab (k := k) (j := 8) (srcs c) 0 i hc h
    rw [Nat.zero_add] at this
    exact this
  have t9 : ∀ {β : Type} {k : Bool → Rs β}, tbK (tab_BadRoad c) ((C : Nat) : Int) k = k (decide (i = 9)) := by
    intro β k
    have := tbK_tab (k := k) (j := 9) (srcs c) 0 i hc h
    rw [Nat.zero_add] at this
    exact this
  have t10 : ∀ {β : Type} {k : Bool → Rs β}, tbK (tab_BadEntry c) ((C : Nat) : Int) k = k (decide (i = 10)) := by
    intro β k
    have := tbK_tab (k := k) (j := 10) (srcs c) 0 i hc h
    rw [Nat.zero_add] at this
    exact this
  have t11 : ∀ {β : Type} {k : Bool → Rs β}, tbK (tab_BadCall c) ((C : Nat) : Int) k = k (decide (i = 11)) := by
    intro β k
    have := tbK_tab (k := k) (j := 11) (srcs c) 0 i hc h
    rw [Nat.zero_add] at this
    exact this
  have t12 : ∀ {β : Type} {k : Bool → Rs β}, tbK (tab_BadText c) ((C : Nat) : Int) k = k (decide (i = 12)) := by
    intro β k
    have := tbK_tab (k := k) (j := 12) (srcs c) 0 i hc h
    rw [Nat.zero_add] at this
    exact this
  unfold S_law_marks
  refine (run_eq (E := [some (.sh false (encX C fs)), none]) rfl rfl).trans ?_
  unfold b_law_marks
  simp (disch := omega) [↓t0, ↓t1, ↓t2, ↓t3, ↓t4, ↓t5, ↓t6, ↓t7, ↓t8, ↓t9, ↓t10, ↓t11, ↓t12]
  rfl
theorem alone_ok (hc : c.Ok) (h : (srcs c)[i]? = some C) : S_law_alone c [encX C fs, .int (i : Int)] = .ok (.sh true (.bool true)) := by
  have n1 : ∀ {β : Type} {k : Bool → Rs β}, tbK (tab_NearError c) ((C : Nat) : Int) k = k true := tbK_tabT (srcs c) i hc h
  have n2 : ∀ {β : Type} {k : Bool → Rs β}, tbK (tab_ValueError c) ((C : Nat) : Int) k = k true := tbK_tabT (srcs c) i hc h
  have hm := marks_ok (fs := fs) hc h
  have hl : (mk13 i).length = 13 := by simp [mk13]
  unfold S_law_alone
  refine (run_eq (E := [some (.sh false (encX C fs)), some (.sh true (.int (i : Int))), none, none]) rfl rfl).trans ?_
  unfold b_law_alone
  simp (disch := omega) [↓n1, ↓n2, ↓cCn hm, hl, -List.map_map]
  refine cLc_m (ys := List.range 13) (c := fun (k : Nat) => .int (k : Int)) (c' := .bool) (fun _ => true) (by simp) rfl rfl rfl (fun k hk => ?_) ?_
  · have hk := List.mem_range.mp hk
    have hat : iat (mk13 i) (k : Int) = decide (i = k) := by
      refine iat_nat ?_
      unfold mk13
      rw [List.getElem?_map, List.getElem?_range hk]; rfl
    unfold lcE e1_law_alone
    simp (disch := first | omega | (rw [hl]; omega)) [hat, -List.map_map]
    by_cases z : i = k
    · subst z; simp
    · have z2 : ¬ (k : Int) = (i : Int) := by omega
      simp [z, z2]
  · have hall : ((List.range 13).map fun _ => true).all id = true := by rw [List.all_map]; exact List.all_eq_true.mpr fun _ _ => rfl
    simp (disch := omega) [hall, -List.map_map, -List.map_const, -List.all_map, -List.all_eq_true]
end
theorem plain_ok {c : CT} (hc : c.Ok) : S_law_plain_errors c [] = .ok (.sh true (.bool true)) := by
  have a0 : S_law_alone c [encX c.BadSize [], .int 0] = .ok (.sh true (.bool true)) := alone_ok (i := 0) hc rfl
  have a1 : S_law_alone c [encX c.BadNumber [], .int 1] = .ok (.sh true (.bool true)) := alone_ok (i := 1) hc rfl
  have a2 : S_law_alone c [encX c.BadStand [], .int 2] = .ok (.sh true (.bool true)) := alone_ok (i := 2) hc rfl
  have a3 : S_law_alone c [encX c.BadPlace [], .int 3] = .ok (.sh true (.bool true)) := alone_ok (i := 3) hc rfl
  have a4 : S_law_alone c [encX c.NoAnswer [], .int 4] = .ok (.sh true (.bool true)) := alone_ok (i := 4) hc rfl
  have a5 : S_law_alone c [encX c.NotAnswer [], .int 5] = .ok (.sh true (.bool true)) := alone_ok (i := 5) hc rfl
  have a6 : S_law_alone c [encX c.NoRoad [], .int 6] = .ok (.sh true (.bool true)) := alone_ok (i := 6) hc rfl
  have a7 : S_law_alone c [encX c.NothingToUndo [], .int 7] = .ok (.sh true (.bool true)) := alone_ok (i := 7) hc rfl
  have a8 : S_law_alone c [encX c.NothingToRedo [], .int 8] = .ok (.sh true (.bool true)) := alone_ok (i := 8) hc rfl
  unfold S_law_plain_errors
  refine (run_eq (E := [none]) rfl rfl).trans ?_
  unfold b_law_plain_errors
  simp (disch := omega) [↓cCs a0, ↓cCs a1, ↓cCs a2, ↓cCs a3, ↓cCs a4, ↓cCs a5, ↓cCs a6, ↓cCs a7, ↓cCs a8]
  rfl
theorem law_k07_true (c : CT) (hc : c.Ok) (ns : List Int) (hn : ns.length ≤ 63) : S_law_k07 c [.list (ns.map .int)] = .ok (.sh true (.bool true)) := by
  have hd : S_law_draws [.list (ns.map .int), .int 6] = _ := draws_ok ns 6 (by omega) (by omega)
  have hdl := draws_len ns 6
  have hp := plain_ok hc
  unfold S_law_k07
  refine (run_eq (E := [some (.sh false (.list (ns.map .int))), none, none, none]) rfl rfl).trans ?_
  unfold b_law_k07
  have q1 : (Str.ofString "line" == Str.ofString "column") = false := by decide +kernel
  have k1 : ∀ a b : Int, List.lookup (Str.ofString "line") [(Str.ofString "column", a), (Str.ofString "line", b)] = some b := fun a b => by
    rw [List.lookup_cons, q1, List.lookup_cons_self]
  have k2 : ∀ a b : Int, List.lookup (Str.ofString "column") [(Str.ofString "column", a), (Str.ofString "line", b)] = some a := fun a b => List.lookup_cons_self
  simp (disch := first | omega | assumption) [↓cCn hd, k1, k2, -List.map_map]
  refine cLc_m (ys := List.range 4) (c := fun (k : Nat) => .int (k : Int)) (c' := .bool) (fun _ => true) (by simp) rfl rfl rfl (fun k hk => ?_) ?_
  · have hk := List.mem_range.mp hk
    have a9 : S_law_alone c [encX c.BadRoad [(Str.ofString "at", iat (draws ns 6) 0)], .int 9] = .ok (.sh true (.bool true)) := alone_ok (i := 9) hc rfl
    have a10 : S_law_alone c [encX c.BadEntry [(Str.ofString "at", iat (draws ns 6) 1)], .int 10] = .ok (.sh true (.bool true)) := alone_ok (i := 10) hc rfl
    have a11 : S_law_alone c [encX c.BadCall [(Str.ofString "at", iat (draws ns 6) 2)], .int 11] = .ok (.sh true (.bool true)) := alone_ok (i := 11) hc rfl
    have a12 : S_law_alone c [encX c.BadText [(Str.ofString "column", iat (draws ns 6) 4 + 1), (Str.ofString "line", iat (draws ns 6) 3 + 1)], .int 12] = .ok (.sh true (.bool true)) := alone_ok (i := 12) hc rfl
    unfold lcE e1_law_k07
    rcases k with _ | _ | _ | _ | k
    · simp (disch := omega) [↓cCs a9]
    · simp (disch := omega) [↓cCs a10]
    · simp (disch := omega) [↓cCs a11]
    · simp (disch := omega) [↓cCs a12]
    · omega
  · have hall : ((List.range 4).map fun _ => true).all id = true := by rw [List.all_map]; exact List.all_eq_true.mpr fun _ _ => rfl
    simp (disch := omega) [hall, ↓cCs hp, -List.map_map, -List.map_const, -List.all_map, -List.all_eq_true]
end Dn
open PySem PySem.W PyProof.Rows
set_option maxHeartbeats 0 in
theorem PySem.Challenge.cw_evernear_k07_errors_stand_apart_holds : PySem.Challenge.rw_evernear_k07_errors_stand_apart.Holds := by
  w_on; o_law; k_head; (case hw => w_witness2)
  k_fill
  refine Dn.walk_d (l := PySem.Challenge.rw_evernear_k07_errors_stand_apart) (n := 63) (k := 6) (x := "script") (S := Dn.S_law_k07 ⟨?C_BadSize, ?C_BadNumber, ?C_BadStand, ?C_BadPlace, ?C_NoAnswer, ?C_NotAnswer, ?C_NoRoad, ?C_NothingToUndo, ?C_NothingToRedo, ?C_BadRoad, ?C_BadEntry, ?C_BadCall, ?C_BadText, ?C_NearError⟩) rfl (by decide) rfl ⟨rfl, by decide, by decide⟩ (fun w h Y => PySem.W.kIn_of Y) ?F (Dn.law_k07_true _ ?dist)
  case F =>
    intro w mg fa h KX G hmg
    refine' Gk07.all_mk KX G hmg ?a0 ?l0 ?c0 ?k0 ?a1 ?l1 ?c1 ?k1 ?a2 ?l2 ?c2 ?k2 ?a3 ?l3 ?c3 ?k3 ?a4 ?l4 ?c4 ?k4 ?ac_BadSize ?ac_BadNumber ?ac_BadStand ?ac_BadPlace ?ac_NoAnswer ?ac_NotAnswer ?ac_NoRoad ?ac_NothingToUndo ?ac_NothingToRedo ?ac_BadRoad ?ac_BadEntry ?ac_BadCall ?ac_BadText ?ac_NearError ?ge ?ta ?cl_BadSize ?ga_BadSize ?gg_BadSize ?su_BadSize ?ca_BadSize ?ob_BadSize ?hd_BadSize ?kc_BadSize ?cl_BadNumber ?ga_BadNumber ?gg_BadNumber ?su_BadNumber ?ca_BadNumber ?ob_BadNumber ?hd_BadNumber ?kc_BadNumber ?cl_BadStand ?ga_BadStand ?gg_BadStand ?su_BadStand ?ca_BadStand ?ob_BadStand ?hd_BadStand ?kc_BadStand ?cl_BadPlace ?ga_BadPlace ?gg_BadPlace ?su_BadPlace ?ca_BadPlace ?ob_BadPlace ?hd_BadPlace ?kc_BadPlace ?cl_NoAnswer ?ga_NoAnswer ?gg_NoAnswer ?su_NoAnswer ?ca_NoAnswer ?ob_NoAnswer ?hd_NoAnswer ?kc_NoAnswer ?cl_NotAnswer ?ga_NotAnswer ?gg_NotAnswer ?su_NotAnswer ?ca_NotAnswer ?ob_NotAnswer ?hd_NotAnswer ?kc_NotAnswer ?cl_NoRoad ?ga_NoRoad ?gg_NoRoad ?su_NoRoad ?ca_NoRoad ?ob_NoRoad ?hd_NoRoad ?kc_NoRoad ?cl_NothingToUndo ?ga_NothingToUndo ?gg_NothingToUndo ?su_NothingToUndo ?ca_NothingToUndo ?ob_NothingToUndo ?hd_NothingToUndo ?kc_NothingToUndo ?cl_NothingToRedo ?ga_NothingToRedo ?gg_NothingToRedo ?su_NothingToRedo ?ca_NothingToRedo ?ob_NothingToRedo ?hd_NothingToRedo ?kc_NothingToRedo ?cl_BadRoad ?ga_BadRoad ?gg_BadRoad ?su_BadRoad ?ca_BadRoad ?ob_BadRoad ?hd_BadRoad ?kc_BadRoad ?cl_BadEntry ?ga_BadEntry ?gg_BadEntry ?su_BadEntry ?ca_BadEntry ?ob_BadEntry ?hd_BadEntry ?kc_BadEntry ?cl_BadCall ?ga_BadCall ?gg_BadCall ?su_BadCall ?ca_BadCall ?ob_BadCall ?hd_BadCall ?kc_BadCall ?cl_BadText ?ga_BadText ?gg_BadText ?su_BadText ?ca_BadText ?ob_BadText ?hd_BadText ?kc_BadText ?k_BadSize_BadSize ?k_BadSize_BadNumber ?k_BadSize_BadStand ?k_BadSize_BadPlace ?k_BadSize_NoAnswer ?k_BadSize_NotAnswer ?k_BadSize_NoRoad ?k_BadSize_NothingToUndo ?k_BadSize_NothingToRedo ?k_BadSize_BadRoad ?k_BadSize_BadEntry ?k_BadSize_BadCall ?k_BadSize_BadText ?k_BadNumber_BadSize ?k_BadNumber_BadNumber ?k_BadNumber_BadStand ?k_BadNumber_BadPlace ?k_BadNumber_NoAnswer ?k_BadNumber_NotAnswer ?k_BadNumber_NoRoad ?k_BadNumber_NothingToUndo ?k_BadNumber_NothingToRedo ?k_BadNumber_BadRoad ?k_BadNumber_BadEntry ?k_BadNumber_BadCall ?k_BadNumber_BadText ?k_BadStand_BadSize ?k_BadStand_BadNumber ?k_BadStand_BadStand ?k_BadStand_BadPlace ?k_BadStand_NoAnswer ?k_BadStand_NotAnswer ?k_BadStand_NoRoad ?k_BadStand_NothingToUndo ?k_BadStand_NothingToRedo ?k_BadStand_BadRoad ?k_BadStand_BadEntry ?k_BadStand_BadCall ?k_BadStand_BadText ?k_BadPlace_BadSize ?k_BadPlace_BadNumber ?k_BadPlace_BadStand ?k_BadPlace_BadPlace ?k_BadPlace_NoAnswer ?k_BadPlace_NotAnswer ?k_BadPlace_NoRoad ?k_BadPlace_NothingToUndo ?k_BadPlace_NothingToRedo ?k_BadPlace_BadRoad ?k_BadPlace_BadEntry ?k_BadPlace_BadCall ?k_BadPlace_BadText ?k_NoAnswer_BadSize ?k_NoAnswer_BadNumber ?k_NoAnswer_BadStand ?k_NoAnswer_BadPlace ?k_NoAnswer_NoAnswer ?k_NoAnswer_NotAnswer ?k_NoAnswer_NoRoad ?k_NoAnswer_NothingToUndo ?k_NoAnswer_NothingToRedo ?k_NoAnswer_BadRoad ?k_NoAnswer_BadEntry ?k_NoAnswer_BadCall ?k_NoAnswer_BadText ?k_NotAnswer_BadSize ?k_NotAnswer_BadNumber ?k_NotAnswer_BadStand ?k_NotAnswer_BadPlace ?k_NotAnswer_NoAnswer ?k_NotAnswer_NotAnswer ?k_NotAnswer_NoRoad ?k_NotAnswer_NothingToUndo ?k_NotAnswer_NothingToRedo ?k_NotAnswer_BadRoad ?k_NotAnswer_BadEntry ?k_NotAnswer_BadCall ?k_NotAnswer_BadText ?k_NoRoad_BadSize ?k_NoRoad_BadNumber ?k_NoRoad_BadStand ?k_NoRoad_BadPlace ?k_NoRoad_NoAnswer ?k_NoRoad_NotAnswer ?k_NoRoad_NoRoad ?k_NoRoad_NothingToUndo ?k_NoRoad_NothingToRedo ?k_NoRoad_BadRoad ?k_NoRoad_BadEntry ?k_NoRoad_BadCall ?k_NoRoad_BadText ?k_NothingToUndo_BadSize ?k_NothingToUndo_BadNumber ?k_NothingToUndo_BadStand ?k_NothingToUndo_BadPlace ?k_NothingToUndo_NoAnswer ?k_NothingToUndo_NotAnswer ?k_NothingToUndo_NoRoad ?k_NothingToUndo_NothingToUndo ?k_NothingToUndo_NothingToRedo ?k_NothingToUndo_BadRoad ?k_NothingToUndo_BadEntry ?k_NothingToUndo_BadCall ?k_NothingToUndo_BadText ?k_NothingToRedo_BadSize ?k_NothingToRedo_BadNumber ?k_NothingToRedo_BadStand ?k_NothingToRedo_BadPlace ?k_NothingToRedo_NoAnswer ?k_NothingToRedo_NotAnswer ?k_NothingToRedo_NoRoad ?k_NothingToRedo_NothingToUndo ?k_NothingToRedo_NothingToRedo ?k_NothingToRedo_BadRoad ?k_NothingToRedo_BadEntry ?k_NothingToRedo_BadCall ?k_NothingToRedo_BadText ?k_BadRoad_BadSize ?k_BadRoad_BadNumber ?k_BadRoad_BadStand ?k_BadRoad_BadPlace ?k_BadRoad_NoAnswer ?k_BadRoad_NotAnswer ?k_BadRoad_NoRoad ?k_BadRoad_NothingToUndo ?k_BadRoad_NothingToRedo ?k_BadRoad_BadRoad ?k_BadRoad_BadEntry ?k_BadRoad_BadCall ?k_BadRoad_BadText ?k_BadEntry_BadSize ?k_BadEntry_BadNumber ?k_BadEntry_BadStand ?k_BadEntry_BadPlace ?k_BadEntry_NoAnswer ?k_BadEntry_NotAnswer ?k_BadEntry_NoRoad ?k_BadEntry_NothingToUndo ?k_BadEntry_NothingToRedo ?k_BadEntry_BadRoad ?k_BadEntry_BadEntry ?k_BadEntry_BadCall ?k_BadEntry_BadText ?k_BadCall_BadSize ?k_BadCall_BadNumber ?k_BadCall_BadStand ?k_BadCall_BadPlace ?k_BadCall_NoAnswer ?k_BadCall_NotAnswer ?k_BadCall_NoRoad ?k_BadCall_NothingToUndo ?k_BadCall_NothingToRedo ?k_BadCall_BadRoad ?k_BadCall_BadEntry ?k_BadCall_BadCall ?k_BadCall_BadText ?k_BadText_BadSize ?k_BadText_BadNumber ?k_BadText_BadStand ?k_BadText_BadPlace ?k_BadText_NoAnswer ?k_BadText_NotAnswer ?k_BadText_NoRoad ?k_BadText_NothingToUndo ?k_BadText_NothingToRedo ?k_BadText_BadRoad ?k_BadText_BadEntry ?k_BadText_BadCall ?k_BadText_BadText ?k_NearError_BadSize ?k_NearError_BadNumber ?k_NearError_BadStand ?k_NearError_BadPlace ?k_NearError_NoAnswer ?k_NearError_NotAnswer ?k_NearError_NoRoad ?k_NearError_NothingToUndo ?k_NearError_NothingToRedo ?k_NearError_BadRoad ?k_NearError_BadEntry ?k_NearError_BadCall ?k_NearError_BadText ?k_ValueError_BadSize ?k_ValueError_BadNumber ?k_ValueError_BadStand ?k_ValueError_BadPlace ?k_ValueError_NoAnswer ?k_ValueError_NotAnswer ?k_ValueError_NoRoad ?k_ValueError_NothingToUndo ?k_ValueError_NothingToRedo ?k_ValueError_BadRoad ?k_ValueError_BadEntry ?k_ValueError_BadCall ?k_ValueError_BadText ?x_BadSize ?x_BadNumber ?x_BadStand ?x_BadPlace ?x_NoAnswer ?x_NotAnswer ?x_NoRoad ?x_NothingToUndo ?x_NothingToRedo ?xl_BadRoad ?rv_BadRoad ?sa_BadRoad ?ty_BadRoad ?iC_BadRoad ?tI_BadRoad ?lI_BadRoad ?cI_BadRoad ?kI_BadRoad ?no_BadRoad_at ?xl_BadEntry ?rv_BadEntry ?sa_BadEntry ?ty_BadEntry ?iC_BadEntry ?tI_BadEntry ?lI_BadEntry ?cI_BadEntry ?kI_BadEntry ?no_BadEntry_at ?xl_BadCall ?rv_BadCall ?sa_BadCall ?ty_BadCall ?iC_BadCall ?tI_BadCall ?lI_BadCall ?cI_BadCall ?kI_BadCall ?no_BadCall_at ?xl_BadText ?rv_BadText ?sa_BadText ?ty_BadText ?iC_BadText ?tI_BadText ?lI_BadText ?cI_BadText ?kI_BadText ?no_BadText_line ?no_BadText_column ?z0 ?z1 ?z2 ?z3 ?z4 ?z5
    (case a0 => k_is); (case l0 => k_is); (case c0 => k_is); (case k0 => k_is); (case a1 => k_is); (case l1 => k_is); (case c1 => k_is); (case k1 => k_is); (case a2 => k_is); (case l2 => k_is); (case c2 => k_is); (case k2 => k_is); (case a3 => k_is); (case l3 => k_is); (case c3 => k_is); (case k3 => k_is); (case a4 => k_is); (case l4 => k_is); (case c4 => k_is); (case k4 => k_is); (case ac_BadSize => k_is); (case ac_BadNumber => k_is); (case ac_BadStand => k_is); (case ac_BadPlace => k_is); (case ac_NoAnswer => k_is); (case ac_NotAnswer => k_is); (case ac_NoRoad => k_is); (case ac_NothingToUndo => k_is); (case ac_NothingToRedo => k_is); (case ac_BadRoad => k_is); (case ac_BadEntry => k_is); (case ac_BadCall => k_is); (case ac_BadText => k_is); (case ac_NearError => k_is); (case ge => k_is); (case ta => k_is); (case cl_BadSize => k_is); (case ga_BadSize => k_is); (case gg_BadSize => k_is); (case su_BadSize => k_is); (case ca_BadSize => k_is); (case ob_BadSize => k_is); (case hd_BadSize => k_is); (case kc_BadSize => k_is); (case cl_BadNumber => k_is); (case ga_BadNumber => k_is); (case gg_BadNumber => k_is); (case su_BadNumber => k_is); (case ca_BadNumber => k_is); (case ob_BadNumber => k_is); (case hd_BadNumber => k_is); (case kc_BadNumber => k_is); (case cl_BadStand => k_is); (case ga_BadStand => k_is); (case gg_BadStand => k_is); (case su_BadStand => k_is); (case ca_BadStand => k_is); (case ob_BadStand => k_is); (case hd_BadStand => k_is); (case kc_BadStand => k_is); (case cl_BadPlace => k_is); (case ga_BadPlace => k_is); (case gg_BadPlace => k_is); (case su_BadPlace => k_is); (case ca_BadPlace => k_is); (case ob_BadPlace => k_is); (case hd_BadPlace => k_is); (case kc_BadPlace => k_is); (case cl_NoAnswer => k_is); (case ga_NoAnswer => k_is); (case gg_NoAnswer => k_is); (case su_NoAnswer => k_is); (case ca_NoAnswer => k_is); (case ob_NoAnswer => k_is); (case hd_NoAnswer => k_is); (case kc_NoAnswer => k_is); (case cl_NotAnswer => k_is); (case ga_NotAnswer => k_is); (case gg_NotAnswer => k_is); (case su_NotAnswer => k_is); (case ca_NotAnswer => k_is); (case ob_NotAnswer => k_is); (case hd_NotAnswer => k_is); (case kc_NotAnswer => k_is); (case cl_NoRoad => k_is); (case ga_NoRoad => k_is); (case gg_NoRoad => k_is); (case su_NoRoad => k_is); (case ca_NoRoad => k_is); (case ob_NoRoad => k_is); (case hd_NoRoad => k_is); (case kc_NoRoad => k_is); (case cl_NothingToUndo => k_is); (case ga_NothingToUndo => k_is); (case gg_NothingToUndo => k_is); (case su_NothingToUndo => k_is); (case ca_NothingToUndo => k_is); (case ob_NothingToUndo => k_is); (case hd_NothingToUndo => k_is); (case kc_NothingToUndo => k_is); (case cl_NothingToRedo => k_is); (case ga_NothingToRedo => k_is); (case gg_NothingToRedo => k_is); (case su_NothingToRedo => k_is); (case ca_NothingToRedo => k_is); (case ob_NothingToRedo => k_is); (case hd_NothingToRedo => k_is); (case kc_NothingToRedo => k_is); (case cl_BadRoad => k_is); (case ga_BadRoad => k_is); (case gg_BadRoad => k_is); (case su_BadRoad => k_is); (case ca_BadRoad => k_is); (case ob_BadRoad => k_is); (case hd_BadRoad => k_is); (case kc_BadRoad => k_is); (case cl_BadEntry => k_is); (case ga_BadEntry => k_is); (case gg_BadEntry => k_is); (case su_BadEntry => k_is); (case ca_BadEntry => k_is); (case ob_BadEntry => k_is); (case hd_BadEntry => k_is); (case kc_BadEntry => k_is); (case cl_BadCall => k_is); (case ga_BadCall => k_is); (case gg_BadCall => k_is); (case su_BadCall => k_is); (case ca_BadCall => k_is); (case ob_BadCall => k_is); (case hd_BadCall => k_is); (case kc_BadCall => k_is); (case cl_BadText => k_is); (case ga_BadText => k_is); (case gg_BadText => k_is); (case su_BadText => k_is); (case ca_BadText => k_is); (case ob_BadText => k_is); (case hd_BadText => k_is); (case kc_BadText => k_is); (case k_BadSize_BadSize => kit_is); (case k_BadSize_BadNumber => kit_is); (case k_BadSize_BadStand => kit_is); (case k_BadSize_BadPlace => kit_is); (case k_BadSize_NoAnswer => kit_is); (case k_BadSize_NotAnswer => kit_is); (case k_BadSize_NoRoad => kit_is); (case k_BadSize_NothingToUndo => kit_is); (case k_BadSize_NothingToRedo => kit_is); (case k_BadSize_BadRoad => kit_is); (case k_BadSize_BadEntry => kit_is); (case k_BadSize_BadCall => kit_is); (case k_BadSize_BadText => kit_is); (case k_BadNumber_BadSize => kit_is); (case k_BadNumber_BadNumber => kit_is); (case k_BadNumber_BadStand => kit_is); (case k_BadNumber_BadPlace => kit_is); (case k_BadNumber_NoAnswer => kit_is); (case k_BadNumber_NotAnswer => kit_is); (case k_BadNumber_NoRoad => kit_is); (case k_BadNumber_NothingToUndo => kit_is); (case k_BadNumber_NothingToRedo => kit_is); (case k_BadNumber_BadRoad => kit_is); (case k_BadNumber_BadEntry => kit_is); (case k_BadNumber_BadCall => kit_is); (case k_BadNumber_BadText => kit_is); (case k_BadStand_BadSize => kit_is); (case k_BadStand_BadNumber => kit_is); (case k_BadStand_BadStand => kit_is); (case k_BadStand_BadPlace => kit_is); (case k_BadStand_NoAnswer => kit_is); (case k_BadStand_NotAnswer => kit_is); (case k_BadStand_NoRoad => kit_is); (case k_BadStand_NothingToUndo => kit_is); (case k_BadStand_NothingToRedo => kit_is); (case k_BadStand_BadRoad => kit_is); (case k_BadStand_BadEntry => kit_is); (case k_BadStand_BadCall => kit_is); (case k_BadStand_BadText => kit_is); (case k_BadPlace_BadSize => kit_is); (case k_BadPlace_BadNumber => kit_is); (case k_BadPlace_BadStand => kit_is); (case k_BadPlace_BadPlace => kit_is); (case k_BadPlace_NoAnswer => kit_is); (case k_BadPlace_NotAnswer => kit_is); (case k_BadPlace_NoRoad => kit_is); (case k_BadPlace_NothingToUndo => kit_is); (case k_BadPlace_NothingToRedo => kit_is); (case k_BadPlace_BadRoad => kit_is); (case k_BadPlace_BadEntry => kit_is); (case k_BadPlace_BadCall => kit_is); (case k_BadPlace_BadText => kit_is); (case k_NoAnswer_BadSize => kit_is); (case k_NoAnswer_BadNumber => kit_is); (case k_NoAnswer_BadStand => kit_is); (case k_NoAnswer_BadPlace => kit_is); (case k_NoAnswer_NoAnswer => kit_is); (case k_NoAnswer_NotAnswer => kit_is); (case k_NoAnswer_NoRoad => kit_is); (case k_NoAnswer_NothingToUndo => kit_is); (case k_NoAnswer_NothingToRedo => kit_is); (case k_NoAnswer_BadRoad => kit_is); (case k_NoAnswer_BadEntry => kit_is); (case k_NoAnswer_BadCall => kit_is); (case k_NoAnswer_BadText => kit_is); (case k_NotAnswer_BadSize => kit_is); (case k_NotAnswer_BadNumber => kit_is); (case k_NotAnswer_BadStand => kit_is); (case k_NotAnswer_BadPlace => kit_is); (case k_NotAnswer_NoAnswer => kit_is); (case k_NotAnswer_NotAnswer => kit_is); (case k_NotAnswer_NoRoad => kit_is); (case k_NotAnswer_NothingToUndo => kit_is); (case k_NotAnswer_NothingToRedo => kit_is); (case k_NotAnswer_BadRoad => kit_is); (case k_NotAnswer_BadEntry => kit_is); (case k_NotAnswer_BadCall => kit_is); (case k_NotAnswer_BadText => kit_is); (case k_NoRoad_BadSize => kit_is); (case k_NoRoad_BadNumber => kit_is); (case k_NoRoad_BadStand => kit_is); (case k_NoRoad_BadPlace => kit_is); (case k_NoRoad_NoAnswer => kit_is); (case k_NoRoad_NotAnswer => kit_is); (case k_NoRoad_NoRoad => kit_is); (case k_NoRoad_NothingToUndo => kit_is); (case k_NoRoad_NothingToRedo => kit_is); (case k_NoRoad_BadRoad => kit_is); (case k_NoRoad_BadEntry => kit_is); (case k_NoRoad_BadCall => kit_is); (case k_NoRoad_BadText => kit_is); (case k_NothingToUndo_BadSize => kit_is); (case k_NothingToUndo_BadNumber => kit_is); (case k_NothingToUndo_BadStand => kit_is); (case k_NothingToUndo_BadPlace => kit_is); (case k_NothingToUndo_NoAnswer => kit_is); (case k_NothingToUndo_NotAnswer => kit_is); (case k_NothingToUndo_NoRoad => kit_is); (case k_NothingToUndo_NothingToUndo => kit_is); (case k_NothingToUndo_NothingToRedo => kit_is); (case k_NothingToUndo_BadRoad => kit_is); (case k_NothingToUndo_BadEntry => kit_is); (case k_NothingToUndo_BadCall => kit_is); (case k_NothingToUndo_BadText => kit_is); (case k_NothingToRedo_BadSize => kit_is); (case k_NothingToRedo_BadNumber => kit_is); (case k_NothingToRedo_BadStand => kit_is); (case k_NothingToRedo_BadPlace => kit_is); (case k_NothingToRedo_NoAnswer => kit_is); (case k_NothingToRedo_NotAnswer => kit_is); (case k_NothingToRedo_NoRoad => kit_is); (case k_NothingToRedo_NothingToUndo => kit_is); (case k_NothingToRedo_NothingToRedo => kit_is); (case k_NothingToRedo_BadRoad => kit_is); (case k_NothingToRedo_BadEntry => kit_is); (case k_NothingToRedo_BadCall => kit_is); (case k_NothingToRedo_BadText => kit_is); (case k_BadRoad_BadSize => kit_is); (case k_BadRoad_BadNumber => kit_is); (case k_BadRoad_BadStand => kit_is); (case k_BadRoad_BadPlace => kit_is); (case k_BadRoad_NoAnswer => kit_is); (case k_BadRoad_NotAnswer => kit_is); (case k_BadRoad_NoRoad => kit_is); (case k_BadRoad_NothingToUndo => kit_is); (case k_BadRoad_NothingToRedo => kit_is); (case k_BadRoad_BadRoad => kit_is); (case k_BadRoad_BadEntry => kit_is); (case k_BadRoad_BadCall => kit_is); (case k_BadRoad_BadText => kit_is); (case k_BadEntry_BadSize => kit_is); (case k_BadEntry_BadNumber => kit_is); (case k_BadEntry_BadStand => kit_is); (case k_BadEntry_BadPlace => kit_is); (case k_BadEntry_NoAnswer => kit_is); (case k_BadEntry_NotAnswer => kit_is); (case k_BadEntry_NoRoad => kit_is); (case k_BadEntry_NothingToUndo => kit_is); (case k_BadEntry_NothingToRedo => kit_is); (case k_BadEntry_BadRoad => kit_is); (case k_BadEntry_BadEntry => kit_is); (case k_BadEntry_BadCall => kit_is); (case k_BadEntry_BadText => kit_is); (case k_BadCall_BadSize => kit_is); (case k_BadCall_BadNumber => kit_is); (case k_BadCall_BadStand => kit_is); (case k_BadCall_BadPlace => kit_is); (case k_BadCall_NoAnswer => kit_is); (case k_BadCall_NotAnswer => kit_is); (case k_BadCall_NoRoad => kit_is); (case k_BadCall_NothingToUndo => kit_is); (case k_BadCall_NothingToRedo => kit_is); (case k_BadCall_BadRoad => kit_is); (case k_BadCall_BadEntry => kit_is); (case k_BadCall_BadCall => kit_is); (case k_BadCall_BadText => kit_is); (case k_BadText_BadSize => kit_is); (case k_BadText_BadNumber => kit_is); (case k_BadText_BadStand => kit_is); (case k_BadText_BadPlace => kit_is); (case k_BadText_NoAnswer => kit_is); (case k_BadText_NotAnswer => kit_is); (case k_BadText_NoRoad => kit_is); (case k_BadText_NothingToUndo => kit_is); (case k_BadText_NothingToRedo => kit_is); (case k_BadText_BadRoad => kit_is); (case k_BadText_BadEntry => kit_is); (case k_BadText_BadCall => kit_is); (case k_BadText_BadText => kit_is); (case k_NearError_BadSize => kit_is); (case k_NearError_BadNumber => kit_is); (case k_NearError_BadStand => kit_is); (case k_NearError_BadPlace => kit_is); (case k_NearError_NoAnswer => kit_is); (case k_NearError_NotAnswer => kit_is); (case k_NearError_NoRoad => kit_is); (case k_NearError_NothingToUndo => kit_is); (case k_NearError_NothingToRedo => kit_is); (case k_NearError_BadRoad => kit_is); (case k_NearError_BadEntry => kit_is); (case k_NearError_BadCall => kit_is); (case k_NearError_BadText => kit_is); (case k_ValueError_BadSize => kit_is); (case k_ValueError_BadNumber => kit_is); (case k_ValueError_BadStand => kit_is); (case k_ValueError_BadPlace => kit_is); (case k_ValueError_NoAnswer => kit_is); (case k_ValueError_NotAnswer => kit_is); (case k_ValueError_NoRoad => kit_is); (case k_ValueError_NothingToUndo => kit_is); (case k_ValueError_NothingToRedo => kit_is); (case k_ValueError_BadRoad => kit_is); (case k_ValueError_BadEntry => kit_is); (case k_ValueError_BadCall => kit_is); (case k_ValueError_BadText => kit_is); (case x_BadSize => k_exc); (case x_BadNumber => k_exc); (case x_BadStand => k_exc); (case x_BadPlace => k_exc); (case x_NoAnswer => k_exc); (case x_NotAnswer => k_exc); (case x_NoRoad => k_exc); (case x_NothingToUndo => k_exc); (case x_NothingToRedo => k_exc); (case xl_BadRoad => k_is); (case rv_BadRoad => first | rfl | decide); (case sa_BadRoad => k_is); (case ty_BadRoad => k_is); (case iC_BadRoad => k_is); (case tI_BadRoad => k_is); (case lI_BadRoad => k_is); (case cI_BadRoad => k_is); (case kI_BadRoad => k_is); (case no_BadRoad_at => k_is); (case xl_BadEntry => k_is); (case rv_BadEntry => first | rfl | decide); (case sa_BadEntry => k_is); (case ty_BadEntry => k_is); (case iC_BadEntry => k_is); (case tI_BadEntry => k_is); (case lI_BadEntry => k_is); (case cI_BadEntry => k_is); (case kI_BadEntry => k_is); (case no_BadEntry_at => k_is); (case xl_BadCall => k_is); (case rv_BadCall => first | rfl | decide); (case sa_BadCall => k_is); (case ty_BadCall => k_is); (case iC_BadCall => k_is); (case tI_BadCall => k_is); (case lI_BadCall => k_is); (case cI_BadCall => k_is); (case kI_BadCall => k_is); (case no_BadCall_at => k_is); (case xl_BadText => k_is); (case rv_BadText => first | rfl | decide); (case sa_BadText => k_is); (case ty_BadText => k_is); (case iC_BadText => k_is); (case tI_BadText => k_is); (case lI_BadText => k_is); (case cI_BadText => k_is); (case kI_BadText => k_is); (case no_BadText_line => k_is); (case no_BadText_column => k_is); (case z0 => k_is); (case z1 => k_is); (case z2 => k_is); (case z3 => k_is); (case z4 => k_is); (case z5 => k_is)
  case dist => (unfold Dn.CT.Ok; decide)

