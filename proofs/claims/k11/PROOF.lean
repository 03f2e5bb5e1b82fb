import PyProof.Rows.All
import Wide.All
import OpenK.AllK
import Wide.FinOn
import HandS.Defaults
import KE.RegKIsAll
import KE.RegKTryMore
import HandS.ForMost
import HandS.WordsExc
import HandS.ExcInit
import KE.KeyNested
import HandS.AnyAll
import KE.KDictCopyH
import KE.KDictSum
import HandS.Dict
import HandS.Iter
import HandS.FStr
import HandS.IsInst
import HandS.TupAny
import HandS.Wide
import HandS.Codes
import PyProof.ReprLen
import HandS.DictComp
import HandS.More
import HandS.Text
import HandS.Deep
import KE.SortData
import KE.KIndexOf
import HandS.ExcValue
import KE.KDictWalk
import HandS.Star
import KE.KDictDisplayH
import KE.DatumOrd
import HandS.SortKw
import KE.GoesEnum
import HandS.DictTup
import HandS.SetFor
import KE.KIndexWalk
import HandS.Strs
import HandS.Flow
import KE.KExcIs
import HandS.ExcField
import HandS.ExcOwn
import HandS.TupLen
import HandS.Style
import KE.KDictPairs
import KE.KDictKeyed
import PyProof.WalksPairs
import PyProof.GenCompD
import PyProof.WalksMore
import PyProof.TupleIter
import PyProof.Rows.Chain
import HandS.Gcd
import PyProof.Draws
import KE.GoesEnumKw
import PySem.Challenge.RW_evernear_k11_towns_read_back
set_option Elab.async false
set_option linter.all false
set_option maxRecDepth 100000
set_option maxHeartbeats 4000000
set_option autoImplicit false
namespace Dn
open PySem PySem.Spec L2
def spc : HO → Bool
  | .tbl _ => true
  | .frz _ (.own _) => true
  | _ => false
def TabL (H : Hp) (P : Addr) (q : Str) : Prop := ∃ ps : Array Value, H P = some (.tbl ps) ∧ TriplesOk ps.toList ∧ ∀ (pos : PySem.Pos) (cv : Value), codeAmong pos ps.toList = some cv → ∃ (c y : Addr) (oc : Obj) (vs : Array Value) (t : Tok), cv = .ref c ∧ H c = some (.frz oc (.own y)) ∧ oc.data = .fields vs ∧ ∃ q2, vs[1]? = some (.str q2 t)
structure Sm (H H' : Hp) : Prop where
  at_ : ∀ (a : Addr) (o : HO), H a = some o → ∀ (n : spc o = false := by rfl), H' a = some o
  ne : ∀ a, H a ≠ none → H' a ≠ none
  tabs : ∀ P q, TabL H P q → TabL H' P q
theorem Sm.g {H H' : Hp} (e : Sm H H') {a : Addr} {o : HO} (h : H a = some o) (n : spc o = false := by rfl) : H' a = some o := e.at_ a o h n
structure Sg (F H : Hp) : Prop where
  p : ∀ a o, F a = some o → H a = some o
  n : ∀ a o, F a = some o → spc o = false
instance {H H' : Hp} : CoeFun (Sg H H') (fun _ => ∀ a o, H a = some o → H' a = some o) := ⟨fun e => e.p⟩
theorem Sm.refl (H : Hp) : Sm H H := ⟨fun _ _ h _ => h, fun _ h => h, fun _ _ h => h⟩
theorem Sm.trans {H H1 H2 : Hp} (a : Sm H H1) (b : Sm H1 H2) : Sm H H2 := ⟨fun c o h n => b.at_ c o (a.at_ c o h n) n, fun c h => b.ne c (a.ne c h), fun P q h => b.tabs P q (a.tabs P q h)⟩
theorem Sg.trans {F H H2 : Hp} (a : Sg F H) (b : Sm H H2) : Sg F H2 := ⟨fun c o h => b.at_ c o (a.p c o h) (a.n c o h), a.n⟩
theorem Sg.pre {F F' H : Hp} (e : Same F F') (a : Sg F' H) : Sg F H := ⟨fun c o h => a.p c o (e c o h), fun c o h => a.n c o (e c o h)⟩
theorem Sm.put {H0 H : Hp} {p : Addr} {o : HO} (h : Sm H0 H) (h0 : H0 p = none) (hn : ∀ u, H p = some u → spc u = false) : Sm H0 (upd H p o) := ⟨fun a u e n => by
    rw [upd_ne (ne_of_none e h0)]; exact h.at_ a u e n, fun a e => by
    by_cases z : a = p
    · subst z; rw [upd_same]; exact fun y => nomatch y
    · rw [upd_ne z]; exact h.ne a e, fun P q t => by
    obtain ⟨ps, h1, h2, h3⟩ := h.tabs P q t
    have np : P ≠ p := fun z => by subst z; have := hn _ h1; cases this
    refine ⟨ps, by rw [upd_ne np]; exact h1, h2, fun pos cv hc => ?_⟩
    obtain ⟨c, y, oc, vs, tt, e1, e2, e3, e4⟩ := h3 pos cv hc
    have nc : c ≠ p := fun z => by subst z; have := hn _ e2; cases this
    exact ⟨c, y, oc, vs, tt, e1, by rw [upd_ne nc]; exact e2, e3, e4⟩⟩
theorem Sm.off {H0 H H' : Hp} {fp : Addr → Prop} (h : Sm H0 H) (h0 : ∀ a, fp a → H0 a = none) (hn : ∀ a u, fp a → H a = some u → spc u = false) (hd : ∀ a, ¬ fp a → H' a = H a) : Sm H0 H' := ⟨fun a u e n => by
    rw [hd a fun z => by rw [h0 a z] at e; cases e]; exact h.at_ a u e n, fun a e => by
    rw [hd a fun z => e (h0 a z)]; exact h.ne a e, fun P q t => by
    obtain ⟨ps, h1, h2, h3⟩ := h.tabs P q t
    have np : ¬ fp P := fun z => by have := hn P _ z h1; cases this
    refine ⟨ps, by rw [hd P np]; exact h1, h2, fun pos cv hc => ?_⟩
    obtain ⟨c, y, oc, vs, tt, e1, e2, e3, e4⟩ := h3 pos cv hc
    have nc : ¬ fp c := fun z => by have := hn c _ z e2; cases this
    exact ⟨c, y, oc, vs, tt, e1, by rw [hd c nc]; exact e2, e3, e4⟩⟩
theorem TabL.swap {H : Hp} {D P : Addr} {o o' : HO} {q : Str} (t : TabL (upd H D o) P q) (n : spc o = false) : TabL (upd H D o') P q := by
  obtain ⟨ps, h1, h2, h3⟩ := t
  have off : ∀ {a : Addr} {u : HO}, upd H D o a = some u → spc u = true → a ≠ D := fun {a u} e hu z => by
    subst z; rw [upd_same] at e; cases e; rw [n] at hu; cases hu
  have np := off h1 rfl
  refine ⟨ps, by rw [upd_ne np] at h1 ⊢; exact h1, h2, fun pos cv hc => ?_⟩
  obtain ⟨c, y, oc, vs, tt, e1, e2, e3, e4⟩ := h3 pos cv hc
  have nc := off e2 rfl
  exact ⟨c, y, oc, vs, tt, e1, by rw [upd_ne nc] at e2 ⊢; exact e2, e3, e4⟩
theorem TabL.drop {H : Hp} {D P : Addr} {o : HO} {q : Str} (t : TabL (upd H D o) P q) (n : spc o = false) : TabL H P q := by
  obtain ⟨ps, h1, h2, h3⟩ := t
  have off : ∀ {a : Addr} {u : HO}, upd H D o a = some u → spc u = true → a ≠ D := fun {a u} e hu z => by
    subst z; rw [upd_same] at e; cases e; rw [n] at hu; cases hu
  refine ⟨ps, by rw [upd_ne (off h1 rfl)] at h1; exact h1, h2, fun pos cv hc => ?_⟩
  obtain ⟨c, y, oc, vs, tt, e1, e2, e3, e4⟩ := h3 pos cv hc
  exact ⟨c, y, oc, vs, tt, e1, by rw [upd_ne (off e2 rfl)] at e2; exact e2, e3, e4⟩
theorem Sm.both {H0 H : Hp} {D : Addr} {o o' : HO} (h : Sm (upd H0 D o) H) (n : spc o = false) (n' : spc o' = false) : Sm (upd H0 D o') (upd H D o') := ⟨fun a u e nu => by
    by_cases y : a = D
    · subst y; rw [upd_same] at e ⊢; exact e
    · rw [upd_ne y] at e ⊢; exact h.at_ a u (by rw [upd_ne y]; exact e) nu, fun a e => by
    by_cases y : a = D
    · subst y; rw [upd_same]; exact fun z => nomatch z
    · rw [upd_ne y] at e ⊢; exact h.ne a (by rw [upd_ne y]; exact e), fun P q t => by
    obtain ⟨ps, h1, h2, h3⟩ := h.tabs P q (t.swap (o' := o) n')
    have hD : H D = some o := h.at_ D o upd_same n
    have off : ∀ {a : Addr} {u : HO}, H a = some u → spc u = true → a ≠ D := fun {a u} e hu z => by
      subst z; rw [hD] at e; cases e; rw [n] at hu; cases hu
    refine ⟨ps, by rw [upd_ne (off h1 rfl)]; exact h1, h2, fun pos cv hc => ?_⟩
    obtain ⟨c, y, oc, vs, tt, e1, e2, e3, e4⟩ := h3 pos cv hc
    exact ⟨c, y, oc, vs, tt, e1, by rw [upd_ne (off e2 rfl)]; exact e2, e3, e4⟩⟩
structure Ns (H : Hp) (a : Addr) : Prop where
  ne : H a ≠ none
  n : ∀ u, H a = some u → spc u = false
theorem Ns.at_ {H : Hp} {a : Addr} (h : Ns H a) : ∃ o, H a = some o ∧ spc o = false := by
  cases q : H a with
  | none => exact absurd q h.ne
  | some o => exact ⟨o, rfl, h.n o q⟩
theorem Ns.to {H H' : Hp} {a : Addr} (h : Ns H a) (e : Sm H H') : Ns H' a := by
  obtain ⟨o, h1, h2⟩ := h.at_
  have := e.at_ _ _ h1 h2
  exact ⟨fun z => (by rw [this] at z; cases z), fun u hu => by rw [this] at hu; cases hu; exact h2⟩
theorem Ns.mk' {H : Hp} {a : Addr} {o : HO} (h : H a = some o) (n : spc o = false := by rfl) : Ns H a := ⟨fun z => (by rw [h] at z; cases z), fun u hu => by rw [h] at hu; cases hu; exact n⟩
def Nw (H0 F : Hp) (n : Bool) (a : Addr) (xs : List V) : Prop := n = true → H0 a = none ∧ F a = some (.lst xs)
def Nd (H0 F : Hp) (n : Bool) (a : Addr) : Prop := n = true → H0 a = none ∧ F a ≠ none
def kD : Key → PyData
  | .inl i => .int i
  | .inr x => .str x
def encX (C : Addr) (fs : List (Str × Int)) : PyData := .dict ((.int 2, .int (C : Nat)) :: fs.map fun p => (.str p.1, .int p.2))
def DX (F : Hp) (dd : Option Addr) (fs : List (Str × Int)) : Prop := match dd with
  | none => fs = []
  | some dx => ∃ od, F dx = some (.frz od (exd dx (fs.map fun p => (p.1, V.int p.2))))
theorem DX.to {F F' : Hp} (e : ∀ a o, F a = some o → F' a = some o) {dd : Option Addr} {fs : List (Str × Int)} (h : DX F dd fs) : DX F' dd fs := by
  cases dd with
  | none => exact h
  | some dx =>
    obtain ⟨od, h⟩ := h
    exact ⟨od, e _ _ h⟩
mutual
def nkey : PyData → Option NestedKey
  | .int i => some (.num i)
  | .tuple ds => (nkeyL ds).map .tup
  | _ => none
def nkeyL : List PyData → Option (List NestedKey)
  | [] => some []
  | d :: ds => match nkey d, nkeyL ds with
    | some k, some ks => some (k :: ks)
    | _, _ => none
end
mutual
def nh : NestedKey → Int
  | .num i => hashInt i
  | .tup ks => reduceHash (Builtin.Tuple.tupleHashOf (nhs ks))
  | _ => 0
def nhs : List NestedKey → List Int
  | [] => []
  | k :: ks => nh k :: nhs ks
end
abbrev NX := NestedKey × Addr × Value
def entN (x : NX) : DictEntry := ⟨nh x.1, .ref x.2.1, x.2.2⟩
def dN (a : Addr) (xs : List NX) : HO := .ext fun h => (xs.length ≤ sizeLine ∧ (a == sysModules) = false ∧ (xs.map (·.1)).Nodup) ∧ ∃ o es ep, h.get? a = some o ∧ o.ExactDict ∧ o.data = .dict es ep ∧ es.toList = xs.map entN
def encN (ks : List PyData) : PyData := .dict ((.int 3, .none) :: ks.map fun d => (d, .none))
def NkU (xs : List NX) (ks : List PyData) : Prop := (xs.map fun x => some x.1) = ks.map nkey ∧ ∀ x ∈ xs, x.1.depth ≤ 8
def PoolOk (ns : List Int) : Prop := 2 ≤ ns.length ∧ ns.length ≤ 100000 ∧ ∀ i ∈ ns, 0 ≤ i ∧ i < 2 ^ 28
def PlPhi (p : Addr) (h : Heap) : Prop := ∃ (ns : List Int) (its : List Value) (n : Nat), PoolOk ns ∧ Vals (ns.map V.int) its ∧ h.get? p = some { cls := .type "list", data := .seq its.toArray n }
def plE (p : Addr) : HO := .ext (PlPhi p)
def encPl : PyData := .dict [(.int 7, .none)]
def tabNames : List Str := ["_all_whole", "_is_number", "_is_lost", "is_closed_table", "_all_below", "is_far", "ascends", "are_rooms", "_is_room", "_with_one_call_more", "is_above", "_some_at_most", "is_below", "_all_at_least", "check_chances", "best_leads", "_leads_into", "_comes_back", "is_stand"]
def TabPhi (P : Addr) (h : Heap) : Prop := ∃ ps : Array Value, h.get? P = some { cls := .none, data := .fields ps } ∧ TriplesOk ps.toList
def tabE (P : Addr) : HO := .ext (TabPhi P)
def TabsF (K : PySem.W.Frag) (F : Hp) : Prop := ∀ x ∈ tabNames, ∀ c P, PySem.W.tabIn K x = some (c, P) → F P = some (tabE P)
theorem TabsF.to {K : PySem.W.Frag} {F F' : Hp} (h : TabsF K F) (e : ∀ a o, F a = some o → F' a = some o) : TabsF K F' := fun x hx c P q => e _ _ (h x hx c P q)
def lamNames : List Str := ["best_of", "nearest_plan", "fewest_rooms", "_answer_by", "_call_by", "_nearest", "_cheapest"]
def lamQ (x : Str) : Str := (x ++ (".<locals>." : Str)) ++ ("<lambda>" : Str)
def LamT (K : PySem.W.Frag) (H : Hp) : Prop := ∀ x ∈ lamNames, ∀ c P, PySem.W.tabIn K x = some (c, P) → TabL H P (lamQ x)
theorem LamT.swap {K : PySem.W.Frag} {H : Hp} {D : Addr} {o o' : HO} (h : LamT K (upd H D o)) (n : spc o = false) : LamT K (upd H D o') := fun x hx c P q => (h x hx c P q).swap n
theorem LamT.drop {K : PySem.W.Frag} {H : Hp} {D : Addr} {o : HO} (h : LamT K (upd H D o)) (n : spc o = false) : LamT K H := fun x hx c P q => (h x hx c P q).drop n
theorem LamT.to {K : PySem.W.Frag} {H H' : Hp} (h : LamT K H) (e : Sm H H') : LamT K H' := fun x hx c P q => e.tabs _ _ (h x hx c P q)
def Tz (H : Hp) (a : Addr) (xs : List V) : Prop := ∃ o : Obj, H a = some (.frz o (.tup xs)) ∧ o.dict = none
def tupZ (o : Obj) (xs : List V) : HO := .frz o (.tup xs)
theorem Tz.to {H H' : Hp} {a : Addr} {xs : List V} (h : Tz H a xs) (e : ∀ a o, H a = some o → H' a = some o) : Tz H' a xs := let ⟨o, h1, h2⟩ := h; ⟨o, e _ _ h1, h2⟩
theorem Tz.sq {K : PySem.W.Frag} {H : Hp} {a : Addr} {xs : List V} (h : Tz H a xs) : SqT K H a xs := let ⟨o, h1, _⟩ := h; .inl (.inr ⟨o, h1⟩)
theorem Tz.rd {H : Hp} {a : Addr} {xs : List V} (h : Tz H a xs) : Rd H a (.tup xs) := let ⟨o, h1, _⟩ := h; .inr ⟨o, h1⟩
theorem Tz.new {H : Hp} {a : Addr} {xs : List V} {o : Obj} (h : o.dict = none) : Tz (upd H a (tupZ o xs)) a xs := ⟨o, upd_same, h⟩
theorem Tz.some {H : Hp} {a : Addr} {xs : List V} (h : Tz H a xs) : H a ≠ none := let ⟨o, h1, _⟩ := h; fun e => by rw [h1] at e; cases e
mutual
inductive Is (K : PySem.W.Frag) (H0 : Hp) (n : Bool) (F : Hp) : V → PyData → Prop
  | non : Is K H0 n F .non .none
  | bl (b : Bool) : Is K H0 n F (.bl b) (.bool b)
  | int (i : Int) : Is K H0 n F (.int i) (.int i)
  | str (x : Str) : Is K H0 n F (.str x) (.str x)
  | lst {a : Addr} {xs : List V} {ds : List PyData} : SqL K F a xs → Nw H0 F n a xs → IsA K H0 n F xs ds → Is K H0 n F (.ref a) (.list ds)
  | tup {a : Addr} {xs : List V} {ds : List PyData} : Tz F a xs → IsA K H0 n F xs ds → Is K H0 n F (.ref a) (.tuple ds)
  | dk {a : Addr} {kvs : List (Key × V)} {ds : List PyData} : Rd F a (.dK kvs) → Nd H0 F n a → IsA K H0 n F (kvs.map (·.2)) ds → Is K H0 n F (.ref a) (.dict ((.bool false, .none) :: (kvs.map fun p => kD p.1).zip ds))
  | dt {a : Addr} {kvs : List (List Key × V)} {ds : List PyData} : Rd F a (.dT kvs) → Nd H0 F n a → IsA K H0 n F (kvs.map (·.2)) ds → Is K H0 n F (.ref a) (.dict ((.bool true, .none) :: (kvs.map fun p => PyData.tuple (p.1.map kD)).zip ds))
  | dl {a : Addr} {o : Obj} {kvs : List (List Key × V)} {ds : List PyData} : F a = some (.frz o (.dT kvs)) → Nd H0 F n a → IsA K H0 n F (kvs.map (·.2)) ds → Is K H0 n F (.ref a) (.dict ((.int 1, .none) :: (kvs.map fun p => PyData.tuple (p.1.map kD)).zip ds))
  | exc {a C : Addr} {oe : Obj} {φ : Heap → Prop} {fs : List (Str × Int)} : F a = some (.frz oe (.ext φ)) → oe.cls = .ref C → (∃ vs, oe.data = .fields vs) → DX F oe.dict fs → Is K H0 n F (.ref a) (encX C fs)
  | nst {a : Addr} {xs : List NX} {ks : List PyData} : F a = some (dN a xs) → Nd H0 F n a → IsA K H0 n F (xs.map fun x => V.ref x.2.1) ks → Is K H0 n F (.ref a) (encN ks)
  | pl {a : Addr} : F a = some (plE a) → Is K H0 n F (.ref a) encPl
  | kl {a : Addr} {o : Obj} {kvs : List (Key × V)} {ds : List PyData} : F a = some (.frz o (.dK kvs)) → Nd H0 F n a → IsA K H0 n F (kvs.map (·.2)) ds → Is K H0 n F (.ref a) (.dict ((.int 4, .none) :: (kvs.map fun p => kD p.1).zip ds))
  | du {a : Addr} {xs : List NX} {ks ds : List PyData} {vs : List V} : Rd F a (dN a xs) → Nd H0 F n a → IsA K H0 n F (xs.map fun x => V.ref x.2.1) ks → Vals vs (xs.map fun x => x.2.2) → IsA K H0 n F vs ds → NkU xs ks → Is K H0 n F (.ref a) (.dict ((.int 5, .none) :: ks.zip ds))
  | dul {a : Addr} {o : Obj} {xs : List NX} {ks ds : List PyData} {vs : List V} : F a = some (.frz o (dN a xs)) → Nd H0 F n a → IsA K H0 n F (xs.map fun x => V.ref x.2.1) ks → Vals vs (xs.map fun x => x.2.2) → IsA K H0 n F vs ds → NkU xs ks → Is K H0 n F (.ref a) (.dict ((.int 6, .none) :: ks.zip ds))
inductive IsA (K : PySem.W.Frag) (H0 : Hp) (n : Bool) (F : Hp) : List V → List PyData → Prop
  | nil : IsA K H0 n F [] []
  | cons {v : V} {vs : List V} {d : PyData} {ds : List PyData} : Is K H0 n F v d → IsA K H0 n F vs ds → IsA K H0 n F (v :: vs) (d :: ds)
end
section
variable {K : PySem.W.Frag} {H H' : Hp}
namespace A1
theorem same_rd {a : Addr} {u : HO} (e : Same H H') (h : Rd H a u) : Rd H' a u := by
  rcases h with h | ⟨o, h⟩
  · exact .inl (e _ _ h)
  · exact .inr ⟨o, e _ _ h⟩
theorem same_t {a : Addr} {xs : List V} (e : Same H H') (h : SqT K H a xs) : SqT K H' a xs := by
  rcases h with h | h
  · exact .inl (same_rd e h)
  · exact .inr h
theorem same_new {p : Addr} {o : HO} (h : H p = none) : Same H (upd H p o) := fun b x e => by
  rw [upd_ne (ne_of_none e h)]
  exact e
theorem same_ne {a : Addr} (e : Same H H') (h : H a ≠ none) : H' a ≠ none := by
  cases q : H a with
  | none => exact absurd q h
  | some o => rw [e _ _ q]; exact fun z => nomatch z
theorem same_none {a : Addr} (e : Same H H') (h : H' a = none) : H a = none := Same.free e h
end A1
namespace A2
theorem same_rd {a : Addr} {u : HO} (e : Sm H H') (h : Rd H a u) (n1 : spc u = false := by rfl) (n2 : ∀ o, spc (.frz o u) = false := by intro; rfl) : Rd H' a u := by
  rcases h with h | ⟨o, h⟩
  · exact .inl (e.at_ _ _ h n1)
  · exact .inr ⟨o, e.at_ _ _ h (n2 o)⟩
theorem same_t {a : Addr} {xs : List V} (e : Sm H H') (h : SqT K H a xs) : SqT K H' a xs := by
  rcases h with h | h
  · exact .inl (same_rd e h)
  · exact .inr h
theorem same_new {p : Addr} {o : HO} (h : H p = none) : Sm H (upd H p o) := (Sm.refl H).put h fun u e => by rw [h] at e; cases e
theorem same_ne {a : Addr} (e : Sm H H') (h : H a ≠ none) : H' a ≠ none := e.ne a h
theorem same_none {a : Addr} (e : Sm H H') (h : H' a = none) : H a = none := by
  cases q : H a with
  | none => rfl
  | some o => exact absurd h (e.ne a fun z => by rw [q] at z; cases z)
end A2
namespace A3
theorem same_rd {a : Addr} {u : HO} (e : Sg H H') (h : Rd H a u) : Rd H' a u := A1.same_rd e.p h
theorem same_t {a : Addr} {xs : List V} (e : Sg H H') (h : SqT K H a xs) : SqT K H' a xs := A1.same_t e.p h
theorem same_ne {a : Addr} (e : Sg H H') (h : H a ≠ none) : H' a ≠ none := A1.same_ne e.p h
theorem same_none {a : Addr} (e : Sg H H') (h : H' a = none) : H a = none := A1.same_none e.p h
end A3
theorem Sm.seq {a : Addr} {xs : List V} (e : Sm H H') (h : SqL K H a xs) : SqL K H' a xs := by
  rcases h with h | h
  · exact .inl (A2.same_rd e h)
  · exact .inr h
theorem Sg.seq {a : Addr} {xs : List V} (e : Sg H H') (h : SqL K H a xs) : SqL K H' a xs := Same.seq e.p h
theorem Sg.both {F : Hp} {p : Addr} {o : HO} (h : Sg F H) (hp : H p = none) (n : spc o = false := by rfl) : Sg (upd F p o) (upd H p o) := ⟨fun a u e => by
    by_cases z : a = p
    · subst z; rw [upd_same] at e ⊢; exact e
    · rw [upd_ne z] at e ⊢; exact h.p _ _ e, fun a u e => by
    by_cases z : a = p
    · subst z; rw [upd_same] at e; cases e; exact n
    · rw [upd_ne z] at e; exact h.n _ _ e⟩
theorem Sg.two {F : Hp} {p : Addr} {o : HO} (h : Sg F H) (n : spc o = false := by rfl) : Sg (upd F p o) (upd H p o) := ⟨fun a u e => by
    by_cases z : a = p
    · subst z; rw [upd_same] at e ⊢; exact e
    · rw [upd_ne z] at e ⊢; exact h.p _ _ e, fun a u e => by
    by_cases z : a = p
    · subst z; rw [upd_same] at e; cases e; exact n
    · rw [upd_ne z] at e; exact h.n _ _ e⟩
theorem Ns.off {a b : Addr} {o : HO} (h : Ns H a) (hab : a ≠ b) : Ns (upd H b o) a := ⟨by rw [upd_ne hab]; exact h.ne, fun u hu => by rw [upd_ne hab] at hu; exact h.n u hu⟩
theorem Sg.wr {F : Hp} {p : Addr} {o : HO} (h : Sg F H) (hp : F p = none) : Sg F (upd H p o) := ⟨fun a u e => by rw [upd_ne (ne_of_none e hp)]; exact h.p _ _ e, h.n⟩
theorem Sg.off {F : Hp} (h : Sg F H) (hd : ∀ a, F a ≠ none → H' a = H a) : Sg F H' := ⟨fun a u e => by rw [hd a fun z => by rw [z] at e; cases e]; exact h.p _ _ e, h.n⟩
theorem Sg.add {F : Hp} {p : Addr} {o : HO} (h : Sg F H) (hp : H p = some o) (n : spc o = false := by rfl) : Sg (upd F p o) H := ⟨fun a u e => by
    by_cases z : a = p
    · subst z; rw [upd_same] at e; cases e; exact hp
    · rw [upd_ne z] at e; exact h.p _ _ e, fun a u e => by
    by_cases z : a = p
    · subst z; rw [upd_same] at e; cases e; exact n
    · rw [upd_ne z] at e; exact h.n _ _ e⟩
end
open A1 A2 A3
section
variable {K : PySem.W.Frag} {H0 H0' F F' H H' : Hp} {n m : Bool}
structure Le (H0 F : Hp) (n : Bool) (H0' F' : Hp) (n' : Bool) : Prop where
  same : Same F F'
  flag : n' = true → n = true
  old : n' = true → ∀ a, F a ≠ none → H0 a = none → H0' a = none
theorem some_ne {H : Hp} {a : Addr} {o : HO} (h : H a = some o) : H a ≠ none := fun z => by rw [h] at z; cases z
theorem Le.nw {n' : Bool} (l : Le H0 F n H0' F' n') {a : Addr} {xs : List V} (h : Nw H0 F n a xs) : Nw H0' F' n' a xs := fun e => by
  obtain ⟨h1, h2⟩ := h (l.flag e)
  exact ⟨l.old e a (some_ne h2) h1, l.same _ _ h2⟩
theorem Le.nd {n' : Bool} (l : Le H0 F n H0' F' n') {a : Addr} (h : Nd H0 F n a) : Nd H0' F' n' a := fun e =>
  ⟨l.old e a (h (l.flag e)).2 (h (l.flag e)).1, same_ne l.same (h (l.flag e)).2⟩
mutual
theorem Is.le {n' : Bool} (l : Le H0 F n H0' F' n') : ∀ {v : V} {d : PyData}, Is K H0 n F v d → Is K H0' n' F' v d
  | _, _, .non => .non
  | _, _, .bl b => .bl b
  | _, _, .int i => .int i
  | _, _, .str x => .str x
  | _, _, .lst h w a => .lst (Same.seq l.same h) (l.nw w) (IsA.le l a)
  | _, _, .tup h a => .tup (h.to l.same) (IsA.le l a)
  | _, _, .dk h w a => .dk (same_rd l.same h) (l.nd w) (IsA.le l a)
  | _, _, .dt h w a => .dt (same_rd l.same h) (l.nd w) (IsA.le l a)
  | _, _, .dl h w a => .dl (l.same _ _ h) (l.nd w) (IsA.le l a)
  | _, _, .exc h c d x => .exc (l.same _ _ h) c d (x.to l.same)
  | _, _, .nst h w a => .nst (l.same _ _ h) (l.nd w) (IsA.le l a)
  | _, _, .pl h => .pl (l.same _ _ h)
  | _, _, .kl h w a => .kl (l.same _ _ h) (l.nd w) (IsA.le l a)
  | _, _, .du h w a v b e => .du (same_rd l.same h) (l.nd w) (IsA.le l a) v (IsA.le l b) e
  | _, _, .dul h w a v b e => .dul (l.same _ _ h) (l.nd w) (IsA.le l a) v (IsA.le l b) e
theorem IsA.le {n' : Bool} (l : Le H0 F n H0' F' n') : ∀ {vs : List V} {ds : List PyData}, IsA K H0 n F vs ds → IsA K H0' n' F' vs ds
  | _, _, .nil => .nil
  | _, _, .cons h t => .cons (Is.le l h) (IsA.le l t)
end
theorem Le.to (e : Same F F') : Le H0 F n H0 F' n := ⟨e, id, fun _ _ _ h => h⟩
theorem Le.weak (e : Same F F') : Le H0 F n H0' F' false := ⟨e, (fun h => nomatch h), (fun h => nomatch h)⟩
theorem Is.to {v : V} {d : PyData} (h : Is K H0 n F v d) (e : Same F F') : Is K H0 n F' v d := h.le (.to e)
theorem IsA.to {v : List V} {d : List PyData} (h : IsA K H0 n F v d) (e : Same F F') : IsA K H0 n F' v d := h.le (.to e)
theorem Is.weak {v : V} {d : PyData} (h : Is K H0 n F v d) (e : Same F F') : Is K H0' false F' v d := h.le (.weak e)
theorem IsA.weak {v : List V} {d : List PyData} (h : IsA K H0 n F v d) (e : Same F F') : IsA K H0' false F' v d := h.le (.weak e)
theorem le_and {a b : Bool} (e : Same F F') : Le H0 F a H0 F' (a && b) := ⟨e, fun h => (Bool.and_eq_true_iff.mp h).1, fun _ _ _ h => h⟩
theorem le_and' {a b : Bool} (e : Same F F') : Le H0 F b H0 F' (a && b) := ⟨e, fun h => (Bool.and_eq_true_iff.mp h).2, fun _ _ _ h => h⟩
def atom : PyData → Bool
  | .list _ => false
  | .tuple _ => false
  | .dict _ => false
  | _ => true
theorem Is.atom {v : V} {d : PyData} (h : Is K H0 n F v d) (ha : atom d = true) : Is K H0' m F' v d := by
  cases h with
  | non => exact .non
  | bl b => exact .bl b
  | int i => exact .int i
  | str x => exact .str x
  | lst _ _ _ => exact nomatch ha
  | tup _ _ => exact nomatch ha
  | dk _ _ _ => exact nomatch ha
  | dt _ _ _ => exact nomatch ha
  | dl _ _ _ => exact nomatch ha
  | exc _ _ _ _ => exact nomatch ha
  | nst _ _ _ => exact nomatch ha
  | pl _ => exact nomatch ha
  | kl _ _ _ => exact nomatch ha
  | du _ _ _ _ _ _ => exact nomatch ha
  | dul _ _ _ _ _ _ => exact nomatch ha
theorem Is.orAtom {v : V} {d : PyData} (h : Is K H0 n F v d) (e : Same F F') : Is K H0 (n || Dn.atom d) F' v d := by
  cases q : Dn.atom d with
  | true => exact h.atom q
  | false => rw [Bool.or_false]; exact h.to e
theorem IsA.length {vs : List V} {ds : List PyData} (h : IsA K H0 n F vs ds) : vs.length = ds.length := by
  induction vs generalizing ds with
  | nil => cases h; rfl
  | cons v vs ih => cases h with | cons _ t => simp [ih t]
theorem IsA.get : ∀ {vs : List V} {ds : List PyData} {i : Nat} {d : PyData}, IsA K H0 n F vs ds → ds[i]? = some d → ∃ v, vs[i]? = some v ∧ Is K H0 n F v d
  | _, _, _, _, .nil, e => by simp at e
  | _, _, 0, _, .cons h _, e => by simp at e; subst e; exact ⟨_, rfl, h⟩
  | _, _, i + 1, _, .cons _ t, e => by
    obtain ⟨v, h1, h2⟩ := IsA.get (i := i) t (by simpa using e)
    exact ⟨v, by simpa using h1, h2⟩
theorem IsA.getV : ∀ {vs : List V} {ds : List PyData} {i : Nat} {v : V}, IsA K H0 n F vs ds → vs[i]? = some v → ∃ d, ds[i]? = some d ∧ Is K H0 n F v d
  | _, _, _, _, .nil, e => by simp at e
  | _, _, 0, _, .cons h _, e => by simp at e; subst e; exact ⟨_, rfl, h⟩
  | _, _, i + 1, _, .cons _ t, e => by
    obtain ⟨v, h1, h2⟩ := IsA.getV (i := i) t (by simpa using e)
    exact ⟨v, by simpa using h1, h2⟩
theorem IsA.append : ∀ {vs ws : List V} {ds es : List PyData}, IsA K H0 n F vs ds → IsA K H0 n F ws es → IsA K H0 n F (vs ++ ws) (ds ++ es)
  | _, _, _, _, .nil, h => h
  | _, _, _, _, .cons h t, h' => .cons h (IsA.append t h')
theorem IsA.take : ∀ {vs : List V} {ds : List PyData} (k : Nat), IsA K H0 n F vs ds → IsA K H0 n F (vs.take k) (ds.take k)
  | _, _, 0, _ => .nil
  | _, _, _ + 1, .nil => .nil
  | _, _, k + 1, .cons h t => .cons h (IsA.take k t)
theorem IsA.drop : ∀ {vs : List V} {ds : List PyData} (k : Nat), IsA K H0 n F vs ds → IsA K H0 n F (vs.drop k) (ds.drop k)
  | _, _, 0, h => h
  | _, _, _ + 1, .nil => .nil
  | _, _, k + 1, .cons _ t => IsA.drop k t
theorem IsA.set {v : V} {d : PyData} (h : Is K H0 n F v d) : ∀ {vs : List V} {ds : List PyData} (k : Nat), IsA K H0 n F vs ds → IsA K H0 n F (vs.set k v) (ds.set k d)
  | _, _, _, .nil => .nil
  | _, _, 0, .cons _ t => .cons h t
  | _, _, k + 1, .cons q t => .cons q (IsA.set h k t)
theorem IsA.ints : ∀ ns : List Int, IsA K H0 n F (ns.map V.int) (ns.map PyData.int)
  | [] => .nil
  | _ :: ns => .cons (.int _) (IsA.ints ns)
end
def encT (k : List Key) : PyData := .tuple (k.map kD)
inductive Dr (K : PySem.W.Frag) (H0 F : Hp) : List (List Key × V) → List (List Key × PyData) → Prop
  | nil : Dr K H0 F [] []
  | cons {k : List Key} {v : V} {d : PyData} {r : List (List Key × V)} {q : List (List Key × PyData)} : Is K H0 false F v d → Dr K H0 F r q → Dr K H0 F ((k, v) :: r) ((k, d) :: q)
def dD (q : List (List Key × PyData)) : PyData := .dict ((.bool true, .none) :: q.map fun p => (encT p.1, p.2))
def dL (q : List (List Key × PyData)) : PyData := .dict ((.int 1, .none) :: q.map fun p => (encT p.1, p.2))
section
variable {K : PySem.W.Frag} {H0 F F' H : Hp} {n : Bool}
theorem Dr.to : ∀ {r : List (List Key × V)} {q : List (List Key × PyData)}, Dr K H0 F r q → Same F F' → Dr K H0 F' r q
  | _, _, .nil, _ => .nil
  | _, _, .cons h t, e => .cons (h.to e) (t.to e)
theorem Dr.old {H0' : Hp} : ∀ {r : List (List Key × V)} {q : List (List Key × PyData)}, Dr K H0 F r q → Dr K H0' F r q
  | _, _, .nil => .nil
  | _, _, .cons h t => .cons (h.weak (Same.refl F)) t.old
theorem Dr.isA : ∀ {r : List (List Key × V)} {q : List (List Key × PyData)}, Dr K H0 F r q → IsA K H0 false F (r.map (·.2)) (q.map (·.2))
  | _, _, .nil => .nil
  | _, _, .cons h t => .cons h t.isA
theorem Dr.zip : ∀ {r : List (List Key × V)} {q : List (List Key × PyData)}, Dr K H0 F r q → (r.map fun p => PyData.tuple (p.1.map kD)).zip (q.map (·.2)) = q.map fun p => (encT p.1, p.2)
  | _, _, .nil => rfl
  | _, _, .cons _ t => by simp only [List.map_cons, List.zip_cons_cons]; rw [t.zip]; rfl
theorem Dr.is {a : Addr} {r : List (List Key × V)} {q : List (List Key × PyData)} (h : Dr K H0 F r q) (e : Rd F a (.dT r)) : Is K H0 false F (.ref a) (dD q) := by
  have := Is.dt (K := K) (H0 := H0) (n := false) e (fun z => nomatch z) h.isA
  rw [h.zip] at this
  exact this
end
inductive KsN (K : PySem.W.Frag) (H0 F : Hp) : List NX → List PyData → Prop
  | nil : KsN K H0 F [] []
  | cons {x : NX} {d : PyData} {xs : List NX} {ks : List PyData} : nkey d = some x.1 → Is K H0 false F (.ref x.2.1) d → KsN K H0 F xs ks → KsN K H0 F (x :: xs) (d :: ks)
section
variable {K : PySem.W.Frag} {H0 F F' H : Hp}
theorem KsN.to : ∀ {xs : List NX} {ks : List PyData}, KsN K H0 F xs ks → Same F F' → KsN K H0 F' xs ks
  | _, _, .nil, _ => .nil
  | _, _, .cons a h t, e => .cons a (h.to e) (t.to e)
theorem KsN.old {H0' : Hp} : ∀ {xs : List NX} {ks : List PyData}, KsN K H0 F xs ks → KsN K H0' F xs ks
  | _, _, .nil => .nil
  | _, _, .cons a h t => .cons a (h.weak (Same.refl F)) t.old
theorem KsN.isA : ∀ {xs : List NX} {ks : List PyData}, KsN K H0 F xs ks → IsA K H0 false F (xs.map fun x => V.ref x.2.1) ks
  | _, _, .nil => .nil
  | _, _, .cons _ h t => .cons h t.isA
theorem KsN.is {a : Addr} {xs : List NX} {ks : List PyData} (h : KsN K H0 F xs ks) (e : F a = some (dN a xs)) : Is K H0 false F (.ref a) (encN ks) := .nst e (fun z => nomatch z) h.isA
end
structure EnU (K : PySem.W.Frag) (H0 F : Hp) (xs : List NX) (q : List (PyData × PyData)) : Prop where
  keys : IsA K H0 false F (xs.map fun x => V.ref x.2.1) (q.map (·.1))
  vals : ∃ vs, Vals vs (xs.map fun x => x.2.2) ∧ IsA K H0 false F vs (q.map (·.2))
  nk : NkU xs (q.map (·.1))
def encU (q : List (PyData × PyData)) : PyData := .dict ((.int 5, .none) :: q)
def encUL (q : List (PyData × PyData)) : PyData := .dict ((.int 6, .none) :: q)
theorem zip_self {α β : Type} : ∀ q : List (α × β), (q.map (·.1)).zip (q.map (·.2)) = q
  | [] => rfl
  | _ :: q => by rw [List.map_cons, List.map_cons, List.zip_cons_cons, zip_self q]
section
variable {K : PySem.W.Frag} {H0 F F' H : Hp}
theorem EnU.to {xs : List NX} {q : List (PyData × PyData)} (h : EnU K H0 F xs q) (e : Same F F') : EnU K H0 F' xs q := ⟨h.keys.to e, let ⟨vs, a, b⟩ := h.vals; ⟨vs, a, b.to e⟩, h.nk⟩
theorem EnU.old {H0' : Hp} {xs : List NX} {q : List (PyData × PyData)} (h : EnU K H0 F xs q) : EnU K H0' F xs q := ⟨h.keys.weak (Same.refl F), let ⟨vs, a, b⟩ := h.vals; ⟨vs, a, b.weak (Same.refl F)⟩, h.nk⟩
theorem EnU.is {a : Addr} {xs : List NX} {q : List (PyData × PyData)} (h : EnU K H0 F xs q) (e : Rd F a (dN a xs)) : Is K H0 false F (.ref a) (encU q) := by
  obtain ⟨vs, h1, h2⟩ := h.vals
  have := Is.du (K := K) (H0 := H0) (n := false) e (fun z => nomatch z) h.keys h1 h2 h.nk
  rwa [zip_self] at this
end
structure EnK (K : PySem.W.Frag) (H0 F : Hp) (kvs : List (Key × V)) (q : List (PyData × PyData)) : Prop where
  vals : IsA K H0 false F (kvs.map (·.2)) (q.map (·.2))
  keys : q.map (·.1) = kvs.map fun p => kD p.1
def encKo (q : List (PyData × PyData)) : PyData := .dict ((.bool false, .none) :: q)
section
variable {K : PySem.W.Frag} {H0 F F' H : Hp}
theorem EnK.to {kvs : List (Key × V)} {q : List (PyData × PyData)} (h : EnK K H0 F kvs q) (e : Same F F') : EnK K H0 F' kvs q := ⟨h.vals.to e, h.keys⟩
theorem EnK.old {H0' : Hp} {kvs : List (Key × V)} {q : List (PyData × PyData)} (h : EnK K H0 F kvs q) : EnK K H0' F kvs q := ⟨h.vals.weak (Same.refl F), h.keys⟩
theorem EnK.isO {a : Addr} {kvs : List (Key × V)} {q : List (PyData × PyData)} (h : EnK K H0 F kvs q) (e : Rd F a (.dK kvs)) : Is K H0 false F (.ref a) (encKo q) := by
  have := Is.dk (K := K) (H0 := H0) (n := false) e (fun z => nomatch z) h.vals
  rw [← h.keys, zip_self] at this
  exact this
theorem vals_app0 {xs ys : List V} {us ws : List Value} (h : Vals xs us) (h2 : Vals ys ws) : Vals (xs ++ ys) (us ++ ws) := by
  unfold Vals at *
  induction h with
  | nil => exact h2
  | cons r t ih => exact .cons r ih
theorem EnU.more {xs : List NX} {q : List (PyData × PyData)} {k : NestedKey} {c : Addr} {u : Value} {z : V} {kd dv : PyData} (h : EnU K H0 F xs q) (hk : nkey kd = some k) (hd : k.depth ≤ 8) (ic : Is K H0 false F (.ref c) kd) (rz : RelV z u) (iz : Is K H0 false F z dv) : EnU K H0 F (xs ++ [(k, c, u)]) (q ++ [(kd, dv)]) := by
  obtain ⟨h1, ⟨vs, h2, h3⟩, h4, h5⟩ := h
  refine ⟨?_, ⟨vs ++ [z], ?_, ?_⟩, ?_, fun x hx => ?_⟩
  · rw [List.map_append, List.map_append]; exact h1.append (.cons ic .nil)
  · rw [List.map_append]; exact vals_app0 h2 (.cons rz .nil)
  · rw [List.map_append]; exact h3.append (.cons iz .nil)
  · rw [List.map_append, List.map_append, List.map_append, h4]
    show _ = _ ++ [nkey kd]
    rw [hk]; rfl
  · rcases List.mem_append.mp hx with hx | hx
    · exact h5 x hx
    · rw [List.mem_singleton.mp hx]; exact hd
end
inductive Sl where
  /-- shared: never changed any more -/
  | sh (n : Bool) (d : PyData)
  /-- a list that this slot alone holds -/
  | ow (n : Bool) (ds : List PyData)
  /-- something new, with all its lists, that this slot alone holds -/
  | rg (d : PyData)
  /-- a list that this slot alone holds, with all the new lists in it -/
  | rl (ds : List PyData)
  /-- a dict with tuples of tuples as keys, that this slot alone holds -/
  | on (ks : List PyData)
  /-- a dict with keys of any kind, that this slot alone holds -/
  | ou (q : List (PyData × PyData))
  /-- a dict with keys of any kind, that this slot alone holds, and in its last entry a dict that it alone holds too -/
  | oz (q : List (PyData × PyData)) (kd : PyData) (es : List (PyData × PyData))
  /-- a dict with keys of any kind, that this slot alone holds, and in its last entry a list that it alone holds too -/
  | oy (q : List (PyData × PyData)) (kd : PyData) (n : Bool) (ds : List PyData)
  /-- a dict with tuples as keys, that this slot alone holds -/
  | od (q : List (List Key × PyData))
abbrev Env := List (Option Sl)
def Sl.data : Sl → PyData
  | .sh _ d => d
  | .ow _ ds => .list ds
  | .rg d => d
  | .rl ds => .list ds
  | .od q => dD q
  | .on ks => encN ks
  | .ou q => encU q
  | .oz q kd es => encU (q ++ [(kd, encKo es)])
  | .oy q kd _ ds => encU (q ++ [(kd, .list ds)])
def Sl.flag : Sl → Bool
  | .sh n _ => n
  | .ow n _ => n
  | .rg _ => true
  | .rl _ => true
  | .od _ => false
  | .on _ => false
  | .ou _ => false
  | .oz _ _ _ => false
  | .oy _ _ _ _ => false
def SlIs (K : PySem.W.Frag) (H0 F H : Hp) (fp : Addr → Prop) (v : V) : Sl → Prop
  | .sh n d => Is K H0 n F v d
  | .ow n ds => ∃ p xs, v = .ref p ∧ H p = some (.lst xs) ∧ fp p ∧ IsA K H0 n F xs ds
  | .rg d => ∃ G, Same F G ∧ Sg G H ∧ (∀ a, G a ≠ none → F a ≠ none ∨ fp a) ∧ Is K F true G v d
  | .rl ds => ∃ p xs G, v = .ref p ∧ H p = some (.lst xs) ∧ fp p ∧ G p = none ∧ Same F G ∧ Sg G H ∧ (∀ a, G a ≠ none → F a ≠ none ∨ fp a) ∧ IsA K F true G xs ds
  | .od q => ∃ p r, v = .ref p ∧ H p = some (.dT r) ∧ fp p ∧ Dr K H0 F r q
  | .on ks => ∃ p xs, v = .ref p ∧ H p = some (dN p xs) ∧ fp p ∧ KsN K H0 F xs ks
  | .ou q => ∃ p xs, v = .ref p ∧ H p = some (dN p xs) ∧ fp p ∧ EnU K H0 F xs q
  | .oz q kd es => ∃ p b c xs k kvs, v = .ref p ∧ H p = some (dN p (xs ++ [(k, c, .ref b)])) ∧ fp p ∧ H b = some (.dK kvs) ∧ fp b ∧ EnU K H0 F xs q ∧ (nkey kd = some k ∧ k.depth ≤ 8 ∧ atKey xs k = none) ∧ Is K H0 false F (.ref c) kd ∧ EnK K H0 F kvs es
  | .oy q kd n ds => ∃ p b c xs k vs, v = .ref p ∧ H p = some (dN p (xs ++ [(k, c, .ref b)])) ∧ fp p ∧ H b = some (.lst vs) ∧ fp b ∧ EnU K H0 F xs q ∧ (nkey kd = some k ∧ k.depth ≤ 8 ∧ atKey xs k = none) ∧ Is K H0 false F (.ref c) kd ∧ IsA K H0 n F vs ds
structure RelF (K : PySem.W.Frag) (H0 F0 : Hp) (env : Env) (σ : St) (F H : Hp) (fp : Nat → Addr → Prop) : Prop where
  fz : Sg F H
  base : Sm H0 H
  len : σ.length = env.length
  sl : ∀ i s, env[i]? = some (some s) → ∃ v, σ[i]? = some (some v) ∧ SlIs K H0 F H (fp i) v s
  dis : ∀ i j a, fp i a → fp j a → i = j
  out : ∀ i a, fp i a → F a = none ∧ H0 a = none ∧ Ns H a
  new : ∀ a, F a ≠ none → F0 a ≠ none ∨ H0 a = none
  f0 : Same F0 F
  tb : TabsF K F0 ∧ LamT K H0
def Rel (K : PySem.W.Frag) (H0 F0 : Hp) (env : Env) (σ : St) (F H : Hp) : Prop := ∃ fp, RelF K H0 F0 env σ F H fp
def uni (F G : Hp) : Hp := fun a => match F a with
  | some o => some o
  | none => G a
section
variable {K : PySem.W.Frag} {H0 F0 F F' G H H' : Hp} {env : Env} {σ : St} {fp : Nat → Addr → Prop}
theorem uni_l : Same F (uni F G) := fun a o e => by unfold uni; rw [e]
theorem uni_h (h1 : Sg F H) (h2 : Sg G H) : Sg (uni F G) H := ⟨fun a o e => by
  unfold uni at e
  cases q : F a with
  | some u => rw [q] at e; cases e; exact h1 _ _ q
  | none => rw [q] at e; exact h2 _ _ e, fun a o e => by
  unfold uni at e
  cases q : F a with
  | some u => rw [q] at e; cases e; exact h1.n _ _ q
  | none => rw [q] at e; exact h2.n _ _ e⟩
theorem uni_r (h1 : Sg F H) (h2 : Sg G H) : Same G (uni F G) := fun a o e => by
  unfold uni
  cases q : F a with
  | some u =>
    have e1 := h1 _ _ q
    rw [h2 _ _ e] at e1
    exact e1.symm
  | none => exact e
theorem uni_none {a : Addr} (h : uni F G a ≠ none) : F a ≠ none ∨ G a ≠ none := by
  unfold uni at h
  cases q : F a with
  | some u => exact .inl fun z => nomatch z
  | none => rw [q] at h; exact .inr h
theorem grow_key {fp : Addr → Prop} (ho : ∀ a, fp a → F' a = none) (h3 : ∀ a, G a ≠ none → F a ≠ none ∨ fp a) : ∀ a, F a = none → G a ≠ none → F' a = none := fun a z1 z2 => by
  rcases h3 a z2 with y | y
  · exact absurd z1 y
  · exact ho a y
mutual
theorem grow_is {fp : Addr → Prop} {U : Hp} (ho : ∀ a, fp a → F' a = none) (h3 : ∀ a, G a ≠ none → F a ≠ none ∨ fp a) (seq : Same G U) : ∀ {v : V} {d : PyData}, Is K F true G v d → Is K F' true U v d
  | _, _, .non => .non
  | _, _, .bl b => .bl b
  | _, _, .int i => .int i
  | _, _, .str x => .str x
  | _, _, .lst h w a => .lst (Same.seq seq h) (fun _ => ⟨grow_key ho h3 _ (w rfl).1 (some_ne (w rfl).2), seq _ _ (w rfl).2⟩) (grow_isA ho h3 seq a)
  | _, _, .tup h a => .tup (h.to seq) (grow_isA ho h3 seq a)
  | _, _, .dk h w a => .dk (same_rd seq h) (fun _ => ⟨grow_key ho h3 _ (w rfl).1 (w rfl).2, same_ne seq (w rfl).2⟩) (grow_isA ho h3 seq a)
  | _, _, .dt h w a => .dt (same_rd seq h) (fun _ => ⟨grow_key ho h3 _ (w rfl).1 (w rfl).2, same_ne seq (w rfl).2⟩) (grow_isA ho h3 seq a)
  | _, _, .dl h w a => .dl (seq _ _ h) (fun _ => ⟨grow_key ho h3 _ (w rfl).1 (w rfl).2, same_ne seq (w rfl).2⟩) (grow_isA ho h3 seq a)
  | _, _, .exc h c d x => .exc (seq _ _ h) c d (x.to seq)
  | _, _, .nst h w a => .nst (seq _ _ h) (fun _ => ⟨grow_key ho h3 _ (w rfl).1 (w rfl).2, same_ne seq (w rfl).2⟩) (grow_isA ho h3 seq a)
  | _, _, .pl h => .pl (seq _ _ h)
  | _, _, .kl h w a => .kl (seq _ _ h) (fun _ => ⟨grow_key ho h3 _ (w rfl).1 (w rfl).2, same_ne seq (w rfl).2⟩) (grow_isA ho h3 seq a)
  | _, _, .du h w a v b e => .du (same_rd seq h) (fun _ => ⟨grow_key ho h3 _ (w rfl).1 (w rfl).2, same_ne seq (w rfl).2⟩) (grow_isA ho h3 seq a) v (grow_isA ho h3 seq b) e
  | _, _, .dul h w a v b e => .dul (seq _ _ h) (fun _ => ⟨grow_key ho h3 _ (w rfl).1 (w rfl).2, same_ne seq (w rfl).2⟩) (grow_isA ho h3 seq a) v (grow_isA ho h3 seq b) e
theorem grow_isA {fp : Addr → Prop} {U : Hp} (ho : ∀ a, fp a → F' a = none) (h3 : ∀ a, G a ≠ none → F a ≠ none ∨ fp a) (seq : Same G U) : ∀ {v : List V} {d : List PyData}, IsA K F true G v d → IsA K F' true U v d
  | _, _, .nil => .nil
  | _, _, .cons h t => .cons (grow_is ho h3 seq h) (grow_isA ho h3 seq t)
end
theorem SlIs.grow {fp : Addr → Prop} {v : V} {s : Sl} (h : SlIs K H0 F H fp v s) (e : Sm H H') (ef : Same F F') (fh : Sg F' H') (ho : ∀ a, fp a → F' a = none) : SlIs K H0 F' H' fp v s := by
  cases s with
  | sh n d => exact Is.to (show Is K H0 n F v d from h) ef
  | ow n ds =>
    obtain ⟨p, xs, rfl, h1, h2, h3⟩ := h
    exact ⟨p, xs, rfl, e.g h1, h2, h3.to ef⟩
  | rg d =>
    obtain ⟨G, h1, h2, h3, h4⟩ := h
    have hg : Sg G H' := h2.trans e
    refine ⟨uni F' G, uni_l, uni_h fh hg, fun a ha => ?_, grow_is ho h3 (uni_r fh hg) h4⟩
    rcases uni_none ha with z | z
    · exact .inl z
    · rcases h3 a z with z | z
      · exact .inl (same_ne ef z)
      · exact .inr z
  | rl ds =>
    obtain ⟨p, xs, G, rfl, k1, k2, k3, h1, h2, h3, h4⟩ := h
    have hg : Sg G H' := h2.trans e
    refine ⟨p, xs, uni F' G, rfl, e.g k1, k2, ?_, uni_l, uni_h fh hg, fun a ha => ?_, grow_isA ho h3 (uni_r fh hg) h4⟩
    · unfold uni
      rw [ho p k2]; exact k3
    · rcases uni_none ha with z | z
      · exact .inl z
      · rcases h3 a z with z | z
        · exact .inl (same_ne ef z)
        · exact .inr z
  | od q =>
    obtain ⟨p, r, rfl, h1, h2, h3⟩ := h
    exact ⟨p, r, rfl, e.g h1, h2, h3.to ef⟩
  | on ks =>
    obtain ⟨p, r, rfl, h1, h2, h3⟩ := h
    exact ⟨p, r, rfl, e.g h1, h2, h3.to ef⟩
  | ou ks =>
    obtain ⟨p, r, rfl, h1, h2, h3⟩ := h
    exact ⟨p, r, rfl, e.g h1, h2, h3.to ef⟩
  | oz q kd es =>
    obtain ⟨p, b, c, xs, k, kvs, rfl, h1, h2, h3, h4, h5, h6, h7, h8⟩ := h
    exact ⟨p, b, c, xs, k, kvs, rfl, e.g h1, h2, e.g h3, h4, h5.to ef, h6, h7.to ef, h8.to ef⟩
  | oy q kd n es =>
    obtain ⟨p, b, c, xs, k, kvs, rfl, h1, h2, h3, h4, h5, h6, h7, h8⟩ := h
    exact ⟨p, b, c, xs, k, kvs, rfl, e.g h1, h2, e.g h3, h4, h5.to ef, h6, h7.to ef, h8.to ef⟩
theorem RelF.grow (r : RelF K H0 F0 env σ F H fp) (e : Sm H H') (ef : Same F F') (fh : Sg F' H') (ho : ∀ i a, fp i a → F' a = none) (hn : ∀ a, F' a ≠ none → F a ≠ none ∨ H0 a = none) : RelF K H0 F0 env σ F' H' fp where
  fz := fh
  base := r.base.trans e
  len := r.len
  sl := fun i s h => by
    obtain ⟨v, h1, h2⟩ := r.sl i s h
    exact ⟨v, h1, h2.grow e ef fh (ho i)⟩
  dis := r.dis
  out := fun i a h => ⟨ho i a h, (r.out i a h).2.1, (r.out i a h).2.2.to e⟩
  new := fun a z => by
    rcases hn a z with y | y
    · exact r.new a y
    · exact .inr y
  f0 := r.f0.trans ef
  tb := r.tb
theorem Rel.fz (r : Rel K H0 F0 env σ F H) : Sg F H := let ⟨_, h⟩ := r; h.fz
theorem Rel.base (r : Rel K H0 F0 env σ F H) : Sm H0 H := let ⟨_, h⟩ := r; h.base
theorem Rel.tabs (r : Rel K H0 F0 env σ F H) : TabsF K F := let ⟨_, h⟩ := r; h.tb.1.to h.f0
theorem Rel.tb (r : Rel K H0 F0 env σ F H) : TabsF K F ∧ LamT K H := let ⟨_, h⟩ := r; ⟨h.tb.1.to h.f0, h.tb.2.to h.base⟩
theorem Rel.len (r : Rel K H0 F0 env σ F H) : σ.length = env.length := let ⟨_, h⟩ := r; h.len
theorem Rel.heap (r : Rel K H0 F0 env σ F H) (e : Sm H H') : Rel K H0 F0 env σ F H' := by
  obtain ⟨fp, r⟩ := r
  exact ⟨fp, r.grow e (Same.refl F) (r.fz.trans e) (fun i a h => (r.out i a h).1) fun _ z => .inl z⟩
theorem Rel.alloc {p : Addr} {o : HO} (r : Rel K H0 F0 env σ F H) (hp : H p = none) (n : spc o = false := by rfl) : Rel K H0 F0 env σ (upd F p o) (upd H p o) := by
  obtain ⟨fp, r⟩ := r
  have fp0 : F p = none := same_none r.fz hp
  refine ⟨fp, r.grow (same_new hp) (same_new fp0) (r.fz.both hp n) (fun i a h => ?_) fun a z => ?_⟩
  · have z : a ≠ p := fun z => by subst z; exact (r.out i a h).2.2.ne hp
    rw [upd_ne z]; exact (r.out i a h).1
  · by_cases y : a = p
    · subst y; exact .inr (same_none r.base hp)
    · rw [upd_ne y] at z; exact .inl z
theorem get_app {α : Type} {l : List α} {x : α} {i : Nat} {y : α} (h : (l ++ [x])[i]? = some y) : l[i]? = some y ∨ (i = l.length ∧ x = y) := by
  by_cases z : i < l.length
  · rw [List.getElem?_append_left z] at h; exact .inl h
  · rw [List.getElem?_append_right (by omega)] at h
    by_cases w : i = l.length
    · subst w; simp at h; exact .inr ⟨rfl, h⟩
    · have : i - l.length ≠ 0 := by omega
      cases q : i - l.length with
      | zero => exact absurd q this
      | succ k => rw [q] at h; simp at h
theorem app_get {α : Type} {l : List α} {x : α} : (l ++ [x])[l.length]? = some x := by simp
theorem app_left {α : Type} {l : List α} {x y : α} {i : Nat} (h : l[i]? = some y) : (l ++ [x])[i]? = some y := by
  rw [List.getElem?_append_left (List.getElem?_eq_some_iff.mp h).1]; exact h
theorem RelF.push {v : V} {s : Sl} {g : Addr → Prop} (r : RelF K H0 F0 env σ F H fp) (h : SlIs K H0 F H g v s) (hd : ∀ i a, i < env.length → fp i a → ¬ g a) (ho : ∀ a, g a → F a = none ∧ H0 a = none ∧ Ns H a) :
    RelF K H0 F0 (env ++ [some s]) (σ ++ [some v]) F H (fun i a => (i < env.length ∧ fp i a) ∨ (i = env.length ∧ g a)) where
  fz := r.fz
  base := r.base
  len := by simp [r.len]
  sl := fun i t q => by
    rcases get_app q with q | ⟨q1, q2⟩
    · have hi : i < env.length := (List.getElem?_eq_some_iff.mp q).1
      obtain ⟨u, h1, h2⟩ := r.sl i t q
      refine ⟨u, app_left h1, ?_⟩
      have e : (fun a => (i < env.length ∧ fp i a) ∨ (i = env.length ∧ g a)) = fp i := by
        funext a
        have : i ≠ env.length := by omega
        simp [hi, this]
      rw [e]; exact h2
    · cases q2
      subst q1
      refine ⟨v, by rw [← r.len]; exact app_get, ?_⟩
      have e : (fun a => (env.length < env.length ∧ fp env.length a) ∨ (env.length = env.length ∧ g a)) = g := by
        funext a; simp
      rw [e]; exact h
  dis := fun i j a h1 h2 => by
    rcases h1 with ⟨i1, h1⟩ | ⟨i1, h1⟩ <;> rcases h2 with ⟨i2, h2⟩ | ⟨i2, h2⟩
    · exact r.dis i j a h1 h2
    · exact absurd h2 (hd i a i1 h1)
    · exact absurd h1 (hd j a i2 h2)
    · omega
  out := fun i a h => by
    rcases h with ⟨_, h⟩ | ⟨_, h⟩
    · exact r.out i a h
    · exact ho a h
  new := r.new
  f0 := r.f0
  tb := r.tb
theorem RelF.sub {env' : Env} {σ' : St} (r : RelF K H0 F0 env σ F H fp) (hl : σ'.length = env'.length)
    (h : ∀ (i : Nat) (s : Sl), env'[i]? = some (some s) → (env[i]? = some (some s) ∧ σ'[i]? = σ[i]?) ∨ (∃ v n d, s = .sh n d ∧ σ'[i]? = some (some v) ∧ Is K H0 n F v d)) : RelF K H0 F0 env' σ' F H fp where
  fz := r.fz
  base := r.base
  len := hl
  sl := fun i s q => by
    rcases h i s q with ⟨h1, h2⟩ | ⟨v, n, d, rfl, h1, h2⟩
    · obtain ⟨v, h3, h4⟩ := r.sl i s h1
      exact ⟨v, h2.trans h3, h4⟩
    · exact ⟨v, h1, h2⟩
  dis := r.dis
  out := r.out
  new := r.new
  f0 := r.f0
  tb := r.tb
theorem Rel.sub {env' : Env} {σ' : St} (r : Rel K H0 F0 env σ F H) (hl : σ'.length = env'.length)
    (h : ∀ (i : Nat) (s : Sl), env'[i]? = some (some s) → (env[i]? = some (some s) ∧ σ'[i]? = σ[i]?) ∨ (∃ v n d, s = .sh n d ∧ σ'[i]? = some (some v) ∧ Is K H0 n F v d)) : Rel K H0 F0 env' σ' F H := by
  obtain ⟨fp, r⟩ := r
  exact ⟨fp, r.sub hl h⟩
theorem Rel.pop {s : Option Sl} {v : Option V} (r : Rel K H0 F0 (env ++ [s]) (σ ++ [v]) F H) : Rel K H0 F0 env σ F H := by
  have hl : σ.length = env.length := by have := r.len; simpa using this
  refine r.sub hl fun i t q => .inl ⟨app_left q, ?_⟩
  have hi : i < env.length := (List.getElem?_eq_some_iff.mp q).1
  rw [List.getElem?_append_left (by omega)]
theorem Rel.share {i : Nat} {s : Sl} (r : Rel K H0 F0 env σ F H) (h : env[i]? = some (some s)) :
    ∃ F' v, Same F F' ∧ Rel K H0 F0 (env.set i (some (.sh s.flag s.data))) σ F' H ∧ σ[i]? = some (some v) ∧ Is K H0 s.flag F' v s.data := by
  obtain ⟨fp, r⟩ := r
  obtain ⟨v, hv, hs⟩ := r.sl i s h
  have hi : i < env.length := (List.getElem?_eq_some_iff.mp h).1
  -- without the slot's own
  have fin : ∀ F', Same F F' → Sg F' H → (∀ a, F' a ≠ none → F a ≠ none ∨ fp i a) → Is K H0 s.flag F' v s.data →
      ∃ F' v, Same F F' ∧ Rel K H0 F0 (env.set i (some (.sh s.flag s.data))) σ F' H ∧ σ[i]? = some (some v) ∧ Is K H0 s.flag F' v s.data := fun F' e1 e2 e3 his => by
    refine ⟨F', v, e1, ⟨fun j a => j ≠ i ∧ fp j a, ⟨e2, r.base, by simpa using r.len, fun j t q => ?_, fun j k a h1 h2 => r.dis j k a h1.2 h2.2, fun j a h1 => ⟨?_, (r.out j a h1.2).2⟩, fun a z => ?_, r.f0.trans e1, r.tb⟩⟩, hv, his⟩
    · by_cases z : j = i
      · subst z
        rw [List.getElem?_set_self hi] at q
        cases q
        exact ⟨v, hv, his⟩
      · rw [List.getElem?_set_ne (Ne.symm z)] at q
        obtain ⟨u, h1, h2⟩ := r.sl j t q
        have e : (fun a => j ≠ i ∧ fp j a) = fp j := by funext a; simp [z]
        rw [e]
        refine ⟨u, h1, h2.grow (Sm.refl H) e1 e2 fun a ha => ?_⟩
        cases y : F' a with
        | none => rfl
        | some o =>
          rcases e3 a (by rw [y]; exact fun z => nomatch z) with x | x
          · exact absurd (r.out j a ha).1 x
          · exact absurd (r.dis j i a ha x) z
    · cases y : F' a with
      | none => rfl
      | some o =>
        rcases e3 a (by rw [y]; exact fun z => nomatch z) with x | x
        · exact absurd (r.out j a h1.2).1 x
        · exact absurd (r.dis j i a h1.2 x) h1.1
    · rcases e3 a z with x | x
      · exact r.new a x
      · exact .inr (r.out i a x).2.1
  cases s with
  | sh n d => exact fin F (Same.refl F) r.fz (fun a h => .inl h) hs
  | ow n ds =>
    obtain ⟨p, xs, rfl, h1, h2, h3⟩ := hs
    obtain ⟨o1, o2, _⟩ := r.out i p h2
    refine fin (upd F p (.lst xs)) (same_new o1) (r.fz.add h1) (fun a e => ?_) (.lst (.inl (.inl upd_same)) (fun _ => ⟨o2, upd_same⟩) (h3.to (same_new o1)))
    · by_cases z : a = p
      · subst z; exact .inr h2
      · rw [upd_ne z] at e; exact .inl e
  | rg d =>
    obtain ⟨G, h1, h2, h3, h4⟩ := hs
    exact fin G h1 h2 h3 (grow_is (fun a x => (r.out i a x).2.1) h3 (Same.refl G) h4)
  | rl ds =>
    obtain ⟨p, xs, G, rfl, k1, k2, k3, h1, h2, h3, h4⟩ := hs
    obtain ⟨o1, o2, _⟩ := r.out i p k2
    refine fin (upd G p (.lst xs)) (h1.trans (same_new k3)) (h2.add k1) (fun a e => ?_) (.lst (.inl (.inl upd_same)) (fun _ => ⟨o2, upd_same⟩) (grow_isA (fun a x => (r.out i a x).2.1) h3 (same_new k3) h4))
    · by_cases z : a = p
      · subst z; exact .inr k2
      · rw [upd_ne z] at e; exact h3 a e
  | od q =>
    obtain ⟨p, xs, rfl, h1, h2, h3⟩ := hs
    obtain ⟨o1, o2, _⟩ := r.out i p h2
    refine fin (upd F p (.dT xs)) (same_new o1) (r.fz.add h1) (fun a e => ?_) ((h3.to (same_new o1)).is (.inl upd_same))
    · by_cases z : a = p
      · subst z; exact .inr h2
      · rw [upd_ne z] at e; exact .inl e
  | on ks =>
    obtain ⟨p, xs, rfl, h1, h2, h3⟩ := hs
    obtain ⟨o1, o2, _⟩ := r.out i p h2
    refine fin (upd F p (dN p xs)) (same_new o1) (r.fz.add h1) (fun a e => ?_) ((h3.to (same_new o1)).is upd_same)
    · by_cases z : a = p
      · subst z; exact .inr h2
      · rw [upd_ne z] at e; exact .inl e
  | ou ks =>
    obtain ⟨p, xs, rfl, h1, h2, h3⟩ := hs
    obtain ⟨o1, o2, _⟩ := r.out i p h2
    refine fin (upd F p (dN p xs)) (same_new o1) (r.fz.add h1) (fun a e => ?_) ((h3.to (same_new o1)).is (.inl upd_same))
    · by_cases z : a = p
      · subst z; exact .inr h2
      · rw [upd_ne z] at e; exact .inl e
  | oz q kd es =>
    obtain ⟨p, b, c, xs, k, kvs, rfl, h1, h2, h3, h4, h5, h6, h7, h8⟩ := hs
    obtain ⟨o1, o2, _⟩ := r.out i p h2
    obtain ⟨b1, b2, _⟩ := r.out i b h4
    have hpb : p ≠ b := fun z => by subst z; rw [h1] at h3; cases h3
    have e1 : Same F (upd F b (.dK kvs)) := same_new b1
    have e2 : Same (upd F b (.dK kvs)) (upd (upd F b (.dK kvs)) p (dN p (xs ++ [(k, c, .ref b)]))) := same_new (by rw [upd_ne hpb]; exact o1)
    have e3 := e1.trans e2
    refine fin (upd (upd F b (.dK kvs)) p (dN p (xs ++ [(k, c, .ref b)]))) e3 ((r.fz.add h3).add h1) (fun a e => ?_) (EnU.is ((h5.to e3).more h6.1 h6.2.1 (h7.to e3) (show RelV (.ref b) (.ref b) from rfl) ((h8.to e3).isO (.inl (e2 _ _ upd_same)))) (.inl upd_same))
    · by_cases z : a = p
      · subst z; exact .inr h2
      · rw [upd_ne z] at e
        by_cases y : a = b
        · subst y; exact .inr h4
        · rw [upd_ne y] at e; exact .inl e
  | oy q kd n es =>
    obtain ⟨p, b, c, xs, k, kvs, rfl, h1, h2, h3, h4, h5, h6, h7, h8⟩ := hs
    obtain ⟨o1, o2, _⟩ := r.out i p h2
    obtain ⟨b1, b2, _⟩ := r.out i b h4
    have hpb : p ≠ b := fun z => by subst z; rw [h1] at h3; cases h3
    have e1 : Same F (upd F b (.lst kvs)) := same_new b1
    have e2 : Same (upd F b (.lst kvs)) (upd (upd F b (.lst kvs)) p (dN p (xs ++ [(k, c, .ref b)]))) := same_new (by rw [upd_ne hpb]; exact o1)
    have e3 := e1.trans e2
    refine fin (upd (upd F b (.lst kvs)) p (dN p (xs ++ [(k, c, .ref b)]))) e3 ((r.fz.add h3).add h1) (fun a e => ?_) (EnU.is ((h5.to e3).more h6.1 h6.2.1 (h7.to e3) (show RelV (.ref b) (.ref b) from rfl) (Is.weak (Is.lst (n := n) (.inl (.inl (e2 _ _ upd_same))) (fun _ => ⟨b2, e2 _ _ upd_same⟩) (h8.to e3)) (Same.refl _))) (.inl upd_same))
    · by_cases z : a = p
      · subst z; exact .inr h2
      · rw [upd_ne z] at e
        by_cases y : a = b
        · subst y; exact .inr h4
        · rw [upd_ne y] at e; exact .inl e
theorem Rel.allocO {p : Addr} {xs : List V} {ds : List PyData} {n : Bool} (r : Rel K H0 F0 env σ F H) (hp : H p = none) (h : IsA K H0 n F xs ds) : Rel K H0 F0 (env ++ [some (.ow n ds)]) (σ ++ [some (.ref p)]) F (upd H p (.lst xs)) := by
  have r1 := r.heap (same_new (o := .lst xs) hp)
  obtain ⟨fp, r0⟩ := r
  have r1 : RelF K H0 F0 env σ F (upd H p (.lst xs)) fp := r0.grow (same_new hp) (Same.refl F) (r0.fz.trans (same_new hp)) (fun i a h => (r0.out i a h).1) fun _ z => .inl z
  refine ⟨_, r1.push (g := fun a => a = p) ⟨p, xs, rfl, upd_same, rfl, h⟩ (fun i a _ ha z => ?_) fun a z => ?_⟩
  · have z : a = p := z
    subst z
    exact (r0.out i a ha).2.2.ne hp
  · have z : a = p := z
    subst z
    exact ⟨same_none r0.fz hp, same_none r0.base hp, .mk' upd_same⟩
theorem Rel.mut {i : Nat} {n m : Bool} {ds es : List PyData} {p : Addr} {ys : List V} (r : Rel K H0 F0 env σ F H) (h : env[i]? = some (some (.ow n ds))) (hp : σ[i]? = some (some (.ref p))) (h' : IsA K H0 m F ys es) :
    Rel K H0 F0 (env.set i (some (.ow m es))) σ F (upd H p (.lst ys)) ∧ ∃ xs, H p = some (.lst xs) ∧ IsA K H0 n F xs ds := by
  obtain ⟨fp, r⟩ := r
  obtain ⟨v, hv, hs⟩ := r.sl i _ h
  obtain ⟨q, xs, rfl, h1, h2, h3⟩ := hs
  rw [hp] at hv; cases hv
  have hi : i < env.length := (List.getElem?_eq_some_iff.mp h).1
  obtain ⟨o1, o2, o3⟩ := r.out i p h2
  refine ⟨⟨fp, ⟨r.fz.wr o1, r.base.put o2 o3.n, by simpa using r.len, fun j t q => ?_, r.dis, fun j a ha => ⟨(r.out j a ha).1, (r.out j a ha).2.1, ?_⟩, r.new, r.f0, r.tb⟩⟩, xs, h1, h3⟩
  · by_cases z : j = i
    · subst z
      rw [List.getElem?_set_self hi] at q
      cases q
      exact ⟨_, hp, p, ys, rfl, upd_same, h2, h'⟩
    · rw [List.getElem?_set_ne (Ne.symm z)] at q
      obtain ⟨u, g1, g2⟩ := r.sl j t q
      refine ⟨u, g1, ?_⟩
      have apart : ∀ a, fp j a → a ≠ p := fun a ha e => by subst e; exact z (r.dis j i a ha h2)
      cases t with
      | sh n d => exact g2
      | ow n d =>
        obtain ⟨q, xs', rfl, k1, k2, k3⟩ := g2
        exact ⟨q, xs', rfl, by rw [upd_ne (apart q k2)]; exact k1, k2, k3⟩
      | rg d =>
        obtain ⟨G, k1, k2, k3, k4⟩ := g2
        refine ⟨G, k1, k2.off fun a e => ?_, k3, k4⟩
        have : a ≠ p := fun y => by
          subst y
          rcases k3 a e with x | x
          · exact x o1
          · exact apart a x rfl
        rw [upd_ne this]
      | rl d =>
        obtain ⟨q, xs', G, rfl, l1, l2, l3, k1, k2, k3, k4⟩ := g2
        refine ⟨q, xs', G, rfl, by rw [upd_ne (apart q l2)]; exact l1, l2, l3, k1, k2.off fun a e => ?_, k3, k4⟩
        have : a ≠ p := fun y => by
          subst y
          rcases k3 a e with x | x
          · exact x o1
          · exact apart a x rfl
        rw [upd_ne this]
      | od d =>
        obtain ⟨q, xs', rfl, k1, k2, k3⟩ := g2
        exact ⟨q, xs', rfl, by rw [upd_ne (apart q k2)]; exact k1, k2, k3⟩
      | on d =>
        obtain ⟨q, xs', rfl, k1, k2, k3⟩ := g2
        exact ⟨q, xs', rfl, by rw [upd_ne (apart q k2)]; exact k1, k2, k3⟩
      | ou d =>
        obtain ⟨q, xs', rfl, k1, k2, k3⟩ := g2
        exact ⟨q, xs', rfl, by rw [upd_ne (apart q k2)]; exact k1, k2, k3⟩
      | oz d kd es =>
        obtain ⟨q, b, c, xs', k, kvs, rfl, k1, k2, k3, k4, k5⟩ := g2
        exact ⟨q, b, c, xs', k, kvs, rfl, by rw [upd_ne (apart q k2)]; exact k1, k2, by rw [upd_ne (apart b k4)]; exact k3, k4, k5⟩
      | oy d kd n es =>
        obtain ⟨q, b, c, xs', k, kvs, rfl, k1, k2, k3, k4, k5⟩ := g2
        exact ⟨q, b, c, xs', k, kvs, rfl, by rw [upd_ne (apart q k2)]; exact k1, k2, by rw [upd_ne (apart b k4)]; exact k3, k4, k5⟩
  · by_cases y : a = p
    · subst y; exact .mk' upd_same
    · exact ⟨by rw [upd_ne y]; exact (r.out j a ha).2.2.ne, fun u hu => by rw [upd_ne y] at hu; exact (r.out j a ha).2.2.n u hu⟩
theorem RelF.scratch {i : Nat} {H' : Hp} (r : RelF K H0 F0 env σ F H fp) (h : ∀ a, ¬ fp i a → H' a = H a) : RelF K H0 F0 (env.set i none) σ F H' (fun j a => j ≠ i ∧ fp j a) where
  fz := r.fz.off fun a e => h a fun z => e (r.out i a z).1
  base := r.base.off (fun a z => (r.out i a z).2.1) (fun a u z hu => (r.out i a z).2.2.n u hu) h
  len := by simpa using r.len
  sl := fun j t q => by
    by_cases z : j = i
    · subst z
      by_cases y : j < env.length
      · rw [List.getElem?_set_self y] at q; cases q
      · rw [List.getElem?_eq_none (by simpa using y)] at q; cases q
    · rw [List.getElem?_set_ne (Ne.symm z)] at q
      obtain ⟨u, g1, g2⟩ := r.sl j t q
      refine ⟨u, g1, ?_⟩
      have ap : ∀ a, fp j a → ¬ fp i a := fun a x y => z (r.dis j i a x y)
      have e : (fun a => j ≠ i ∧ fp j a) = fp j := by funext a; simp [z]
      rw [e]
      have gh : ∀ {G : Hp}, Sg G H → (∀ a, G a ≠ none → F a ≠ none ∨ fp j a) → Sg G H' := fun {G} s1 s2 => s1.off fun a x => h a fun y => by
        rcases s2 a x with w | w
        · exact w (r.out i a y).1
        · exact ap a w y
      cases t with
      | sh n d => exact g2
      | ow n d =>
        obtain ⟨q, xs', rfl, k1, k2, k3⟩ := g2
        exact ⟨q, xs', rfl, by rw [h q (ap q k2)]; exact k1, k2, k3⟩
      | rg d =>
        obtain ⟨G, k1, k2, k3, k4⟩ := g2
        exact ⟨G, k1, gh k2 k3, k3, k4⟩
      | rl d =>
        obtain ⟨q, xs', G, rfl, l1, l2, l3, k1, k2, k3, k4⟩ := g2
        exact ⟨q, xs', G, rfl, by rw [h q (ap q l2)]; exact l1, l2, l3, k1, gh k2 k3, k3, k4⟩
      | od d =>
        obtain ⟨q, xs', rfl, k1, k2, k3⟩ := g2
        exact ⟨q, xs', rfl, by rw [h q (ap q k2)]; exact k1, k2, k3⟩
      | on d =>
        obtain ⟨q, xs', rfl, k1, k2, k3⟩ := g2
        exact ⟨q, xs', rfl, by rw [h q (ap q k2)]; exact k1, k2, k3⟩
      | ou d =>
        obtain ⟨q, xs', rfl, k1, k2, k3⟩ := g2
        exact ⟨q, xs', rfl, by rw [h q (ap q k2)]; exact k1, k2, k3⟩
      | oz d kd es =>
        obtain ⟨q, b, c, xs', k, kvs, rfl, k1, k2, k3, k4, k5⟩ := g2
        exact ⟨q, b, c, xs', k, kvs, rfl, by rw [h q (ap q k2)]; exact k1, k2, by rw [h b (ap b k4)]; exact k3, k4, k5⟩
      | oy d kd n es =>
        obtain ⟨q, b, c, xs', k, kvs, rfl, k1, k2, k3, k4, k5⟩ := g2
        exact ⟨q, b, c, xs', k, kvs, rfl, by rw [h q (ap q k2)]; exact k1, k2, by rw [h b (ap b k4)]; exact k3, k4, k5⟩
  dis := fun j k a h1 h2 => r.dis j k a h1.2 h2.2
  out := fun j a h1 => ⟨(r.out j a h1.2).1, (r.out j a h1.2).2.1, by
    have e := h a fun y => h1.1 (r.dis j i a h1.2 y)
    exact ⟨by rw [e]; exact (r.out j a h1.2).2.2.ne, fun u hu => (r.out j a h1.2).2.2.n u (by rw [← e]; exact hu)⟩⟩
  new := r.new
  f0 := r.f0
  tb := r.tb
end
end Dn
namespace Dn
open PySem PySem.Spec L2 A1 A2 A3
structure Exn where
  cls : Str
  fs : List (Str × V)
inductive Rs (α : Type) where
  | bad
  | ok (a : α)
  | ex (e : Env) (x : Exn)
  /-- one of these up to m, nobody knows which -/
  | ch (m : Nat) (f : Nat → Rs α)
def Rs.bind {α β : Type} (r : Rs α) (k : α → Rs β) : Rs β := match r with
  | .bad => .bad
  | .ok a => k a
  | .ex e x => .ex e x
  | .ch m f => .ch m fun i => (f i).bind k
def Nx {α : Type} (r : Rs α) : Prop := match r with
  | .ex _ _ => False
  | .ch _ _ => False
  | _ => True
@[simp] theorem Rs.bind_ok {α β : Type} (a : α) (k : α → Rs β) : (Rs.ok a).bind k = k a := rfl
@[simp] theorem Rs.bind_bad {α β : Type} (k : α → Rs β) : (Rs.bad).bind k = .bad := rfl
@[simp] theorem Rs.bind_ex {α β : Type} (e : Env) (x : Exn) (k : α → Rs β) : (Rs.ex e x : Rs α).bind k = .ex e x := rfl
def Rs.post {α : Type} (r : Rs α) (P : α → Prop) (E : Env → Exn → Prop) : Prop := match r with
  | .bad => False
  | .ok a => P a
  | .ex e x => E e x
  | .ch m f => ∀ i, i ≤ m → (f i).post P E
theorem Rs.post_bind {α β : Type} {r : Rs α} {k : α → Rs β} {P : β → Prop} {E : Env → Exn → Prop} : (r.bind k).post P E ↔ r.post (fun a => (k a).post P E) E := by
  induction r with
  | ch m f ih => exact ⟨fun h i hi => (ih i).mp (h i hi), fun h i hi => (ih i).mpr (h i hi)⟩
  | _ => exact Iff.rfl
theorem Rs.post_mono {α : Type} {r : Rs α} {P P' : α → Prop} {E E' : Env → Exn → Prop} (h : r.post P E) (hp : ∀ a, P a → P' a) (he : ∀ e x, E e x → E' e x) : r.post P' E' := by
  induction r with
  | bad => exact h
  | ok a => exact hp a h
  | ex e x => exact he e x h
  | ch m f ih => exact fun i hi => ih i (h i hi)
def grd {α : Type} (b : Bool) (r : Rs α) : Rs α := if b = true then r else .bad
@[simp] theorem grd_true {α : Type} (r : Rs α) : grd true r = r := rfl
theorem grd_no {α : Type} {b : Bool} {r : Rs α} (h : Nx r) : Nx (grd b r) := by
  unfold grd; split
  · exact h
  · exact trivial
theorem grd_post {α : Type} {b : Bool} {r : Rs α} {P : α → Prop} {E : Env → Exn → Prop} (h : (grd b r).post P E) : b = true ∧ r.post P E := by
  unfold grd at h
  by_cases q : b = true
  · rw [if_pos q] at h; exact ⟨q, h⟩
  · rw [if_neg q] at h; exact h.elim
inductive R where
  | sh (n : Bool) (d : PyData)
  | nw (n : Bool) (ds : List PyData)
  | own (i : Nat)
abbrev Dv := Bool × PyData
abbrev FE := Env → Rs (Env × R)
abbrev FV := Env → Rs (Env × Dv)
abbrev FT := Env → Rs Bool
abbrev FA := Env → Rs (Env × List Dv)
section
variable {K : PySem.W.Frag} {H0 F0 F F' H H' : Hp} {env : Env} {σ : St}
def RelR (K : PySem.W.Frag) (H0 F0 : Hp) (env : Env) (σ : St) (F H : Hp) (v : V) : R → Prop
  | .sh n d => Rel K H0 F0 env σ F H ∧ Is K H0 n F v d
  | .nw n ds => Rel K H0 F0 (env ++ [some (.ow n ds)]) (σ ++ [some v]) F H
  | .own i => Rel K H0 F0 env σ F H ∧ σ[i]? = some (some v)
def Vw (K : PySem.W.Frag) (H0 F H : Hp) (v : V) (p : Dv) : Prop :=
  Is K H0 p.1 F v p.2 ∨ ∃ a xs ds, v = .ref a ∧ p.2 = .list ds ∧ H a = some (.lst xs) ∧ H0 a = none ∧ IsA K H0 p.1 F xs ds
theorem Vw.to {v : V} {p : Dv} (h : Vw K H0 F H v p) (e : Same F F') (e' : Sm H H') : Vw K H0 F' H' v p := by
  rcases h with h | ⟨a, xs, ds, h1, h2, h3, h4, h5⟩
  · exact .inl (h.to e)
  · exact .inr ⟨a, xs, ds, h1, h2, e'.g h3, h4, h5.to e⟩
def IsV (K : PySem.W.Frag) (H0 F H : Hp) (v : V) (p : Dv) : Prop := Is K H0 p.1 F v p.2
inductive All2 {α β : Type} (P : α → β → Prop) : List α → List β → Prop
  | nil : All2 P [] []
  | cons {a : α} {b : β} {as : List α} {bs : List β} : P a b → All2 P as bs → All2 P (a :: as) (b :: bs)
theorem All2.mono {α β : Type} {P Q : α → β → Prop} (f : ∀ a b, P a b → Q a b) : ∀ {as : List α} {bs : List β}, All2 P as bs → All2 Q as bs
  | _, _, .nil => .nil
  | _, _, .cons h t => .cons (f _ _ h) (t.mono f)
def exnIs (mg : Str → Option Value) (x : Exn) (cls : Value) (dO : Option Addr) (H H3 : Hp) : Prop := mg x.cls = some cls ∧ (∃ C, cls = .ref C) ∧ match x.fs with
  | [] => dO = none ∧ H3 = H
  | _ :: _ => ∃ d, dO = some d ∧ H d = none ∧ H3 = upd H d (.xd x.fs)
def ExP (K : PySem.W.Frag) (mg : Str → Option Value) (W : WX) (H0 F0 F H : Hp) (σ : St) (e : Env) (x : Exn) : Prop := ∀ cls dO F' H', Rel K H0 F0 e σ F' H' → Sm H H' → Same F F' → ∀ H3, exnIs mg x cls dO H' H3 → W cls dO σ H3
theorem ExP.to {mg : Str → Option Value} {W : WX} {e : Env} {x : Exn} (h : ExP K mg W H0 F0 F H σ e x) (e1 : Same F F') (e2 : Sm H H') : ExP K mg W H0 F0 F' H' σ e x := fun cls dO F2 H2 r a b q => h cls dO F2 H2 r (e2.trans a) (e1.trans b) q
def tE (K : PySem.W.Frag) (mg : Str → Option Value) (W : WX) (f : FE) : TE := fun σ H Q => ∃ H0 F0 F env, Rel K H0 F0 env σ F H ∧
  (f env).post (fun p => ∀ v F' H', RelR K H0 F0 p.1 σ F' H' v p.2 → Sm H H' → Same F F' → Q v H') (ExP K mg W H0 F0 F H σ)
def tV (K : PySem.W.Frag) (mg : Str → Option Value) (W : WX) (f : FV) : TE := fun σ H Q => ∃ H0 F0 F env, Rel K H0 F0 env σ F H ∧
  (f env).post (fun p => ∀ v F' H', Rel K H0 F0 p.1 σ F' H' → Vw K H0 F' H' v p.2 → Sm H H' → Same F F' → Q v H') (ExP K mg W H0 F0 F H σ)
def tD (K : PySem.W.Frag) (mg : Str → Option Value) (W : WX) (f : FV) : TE := fun σ H Q => ∃ H0 F0 F env, Rel K H0 F0 env σ F H ∧
  (f env).post (fun p => ∀ v F' H', Rel K H0 F0 p.1 σ F' H' → Is K H0 p.2.1 F' v p.2.2 → Sm H H' → Same F F' → Q v H') (ExP K mg W H0 F0 F H σ)
def tT (K : PySem.W.Frag) (mg : Str → Option Value) (W : WX) (f : FT) : TT := fun σ H Q => ∃ H0 F0 F env, Rel K H0 F0 env σ F H ∧
  (f env).post (fun b => ∀ H', Rel K H0 F0 env σ F H' → Sm H H' → Q b H') (ExP K mg W H0 F0 F H σ)
def tAV (K : PySem.W.Frag) (mg : Str → Option Value) (W : WX) (f : FA) : TA := fun σ H Q => ∃ H0 F0 F env, Rel K H0 F0 env σ F H ∧
  (f env).post (fun p => ∀ vs F' H', Rel K H0 F0 p.1 σ F' H' → All2 (Vw K H0 F' H') vs p.2 → Sm H H' → Same F F' → Q vs H') (ExP K mg W H0 F0 F H σ)
def tAD (K : PySem.W.Frag) (mg : Str → Option Value) (W : WX) (f : FA) : TA := fun σ H Q => ∃ H0 F0 F env, Rel K H0 F0 env σ F H ∧
  (f env).post (fun p => ∀ vs F' H', Rel K H0 F0 p.1 σ F' H' → All2 (IsV K H0 F' H') vs p.2 → Sm H H' → Same F F' → Q vs H') (ExP K mg W H0 F0 F H σ)
def rd (f : FE) : FV := fun env => (f env).bind fun p => match p.2 with
  | .sh n d => .ok (p.1, (n, d))
  | .nw n ds => .ok (p.1, (n, .list ds))
  | .own i => match p.1[i]? with
    | some (some (.ow n ds)) => .ok (p.1, (n, .list ds))
    | _ => .bad
def st (f : FE) : FV := fun env => (f env).bind fun p => match p.2 with
  | .sh n d => .ok (p.1, (n, d))
  | .nw n ds => .ok (p.1, (n, .list ds))
  | .own i => match p.1[i]? with
    | some (some s) => .ok (p.1.set i (some (.sh s.flag s.data)), (s.flag, s.data))
    | _ => .bad
theorem set_last {α : Type} (l : List α) (x y : α) : (l ++ [x]).set l.length y = l ++ [y] := by
  rw [List.set_append_right _ _ (Nat.le_refl _)]; simp
theorem share_new {n : Bool} {ds : List PyData} {v : V} (r : Rel K H0 F0 (env ++ [some (.ow n ds)]) (σ ++ [some v]) F H) : ∃ F', Same F F' ∧ Rel K H0 F0 env σ F' H ∧ Is K H0 n F' v (.list ds) := by
  obtain ⟨F', v', e, r', hv, hi⟩ := r.share (i := env.length) app_get
  rw [set_last] at r'
  have hl : σ.length = env.length := by have := r.len; simpa using this
  rw [← hl, app_get] at hv
  cases hv
  exact ⟨F', e, r'.pop, hi⟩
section
variable {mg : Str → Option Value} {W : WX} {f : FE} {Q : VK}
theorem tV_rd (h : tV K mg W (rd f) σ H Q) : tE K mg W f σ H Q := by
  obtain ⟨H0, F0, F, env, r, h⟩ := h
  refine ⟨H0, F0, F, env, r, ?_⟩
  unfold rd at h
  refine Rs.post_mono (Rs.post_bind.mp h) (fun p hp v F' H' hr e1 e2 => ?_) fun _ _ x => x
  obtain ⟨e, q⟩ := p
  cases q with
  | sh n d => exact hp v F' H' hr.1 (.inl hr.2) e1 e2
  | nw n ds =>
    obtain ⟨F2, e3, r2, i2⟩ := share_new hr
    exact hp v F2 H' r2 (.inl i2) e1 (e2.trans e3)
  | own i =>
    obtain ⟨hr, hv⟩ := hr
    dsimp only at hp
    split at hp
    · rename_i n ds q
      obtain ⟨fp, rf⟩ := id hr
      obtain ⟨u, hu, a, xs, rfl, k1, k2, k3⟩ := rf.sl i _ q
      rw [hv] at hu; cases hu
      exact hp _ F' H' hr (.inr ⟨a, xs, ds, rfl, rfl, k1, (rf.out i a k2).2.1, k3⟩) e1 e2
    · exact hp.elim
theorem tD_st (h : tD K mg W (st f) σ H Q) : tE K mg W f σ H Q := by
  obtain ⟨H0, F0, F, env, r, h⟩ := h
  refine ⟨H0, F0, F, env, r, ?_⟩
  unfold st at h
  refine Rs.post_mono (Rs.post_bind.mp h) (fun p hp v F' H' hr e1 e2 => ?_) fun _ _ x => x
  obtain ⟨e, q⟩ := p
  cases q with
  | sh n d => exact hp v F' H' hr.1 hr.2 e1 e2
  | nw n ds =>
    obtain ⟨F2, e3, r2, i2⟩ := share_new hr
    exact hp v F2 H' r2 i2 e1 (e2.trans e3)
  | own i =>
    obtain ⟨hr, hv⟩ := hr
    dsimp only at hp
    split at hp
    · rename_i s q
      obtain ⟨F2, u, e3, r2, hu, hi⟩ := hr.share q
      rw [hv] at hu; cases hu
      exact hp _ F2 H' r2 hi e1 (e2.trans e3)
    · exact hp.elim
end
structure Ext (F H F' H' : Hp) : Prop where
  f : Same F F'
  h : Sm H H'
  fh : Sg F' H'
  new : ∀ a, F' a ≠ none → F a ≠ none ∨ H a = none
theorem Ext.refl (h : Sg F H) : Ext F H F H := ⟨Same.refl F, Sm.refl H, h, fun _ z => .inl z⟩
theorem Ext.trans {F1 H1 F2 H2 : Hp} (a : Ext F H F1 H1) (b : Ext F1 H1 F2 H2) : Ext F H F2 H2 := ⟨a.f.trans b.f, a.h.trans b.h, b.fh, fun x z => by
  rcases b.new x z with y | y
  · exact a.new x y
  · exact .inr (same_none a.h y)⟩
theorem Ext.alloc {p : Addr} {o : HO} (h : Sg F H) (hp : H p = none) (n : spc o = false := by rfl) : Ext F H (upd F p o) (upd H p o) := ⟨same_new (same_none h hp), same_new hp, h.both hp n, fun a z => by
  by_cases y : a = p
  · subst y; exact .inr hp
  · rw [upd_ne y] at z; exact .inl z⟩
theorem Ext.allocH {p : Addr} {o : HO} (h : Sg F H) (hp : H p = none) : Ext F H F (upd H p o) := ⟨Same.refl F, same_new hp, h.trans (same_new hp), fun _ z => .inl z⟩
theorem Rel.ext (r : Rel K H0 F0 env σ F H) (x : Ext F H F' H') : Rel K H0 F0 env σ F' H' := by
  obtain ⟨fp, r⟩ := r
  refine ⟨fp, r.grow x.h x.f x.fh (fun i a h => ?_) fun a z => (x.new a z).imp_right fun y => same_none r.base y⟩
  cases q : F' a with
  | none => rfl
  | some o =>
    rcases x.new a (by rw [q]; exact fun z => nomatch z) with z | z
    · exact absurd (r.out i a h).1 z
    · exact absurd z (r.out i a h).2.2.ne
def VRes (K : PySem.W.Frag) (H0 H F' H' : Hp) (v : V) : R → Prop
  | .sh n d => Is K H0 n F' v d
  | .nw n ds => ∃ p xs, v = .ref p ∧ H p = none ∧ F' p = none ∧ H' p = some (.lst xs) ∧ IsA K H0 n F' xs ds
  | .own _ => False
theorem VRes.rel {v : V} {q : R} (r : Rel K H0 F0 env σ F H) (x : Ext F H F' H') (h : VRes K H0 H F' H' v q) : RelR K H0 F0 env σ F' H' v q := by
  cases q with
  | sh n d => exact ⟨r.ext x, h⟩
  | nw n ds =>
    obtain ⟨p, xs, rfl, h1, h2, h3, h4⟩ := h
    obtain ⟨fp, r0⟩ := r
    have r1 : RelF K H0 F0 env σ F' H' fp := r0.grow x.h x.f x.fh (fun i a h => by
      cases q : F' a with
      | none => rfl
      | some o =>
        rcases x.new a (by rw [q]; exact fun z => nomatch z) with z | z
        · exact absurd (r0.out i a h).1 z
        · exact absurd z (r0.out i a h).2.2.ne) fun a z => (x.new a z).imp_right fun y => same_none r0.base y
    refine ⟨_, r1.push (g := fun a => a = p) ⟨p, xs, rfl, h3, rfl, h4⟩ (fun i a _ ha z => ?_) fun a z => ?_⟩
    · have z : a = p := z
      subst z
      exact (r0.out i a ha).2.2.ne h1
    · have z : a = p := z
      subst z
      exact ⟨h2, same_none r0.base h1, .mk' h3⟩
  | own i => exact h.elim
abbrev G2 := Dv → Dv → Rs R
abbrev G1 := Dv → Rs R
abbrev GN := List Dv → Rs R
def rG2 (K : PySem.W.Frag) (g : G2) : R2 := fun x y H Q => ∃ H0 F p q, Sg F H ∧ Sm H0 H ∧ Vw K H0 F H x p ∧ Vw K H0 F H y q ∧ (g p q).post (fun res => ∀ v F' H', Ext F H F' H' → VRes K H0 H F' H' v res → Q v H') (fun _ _ => False)
def rG1 (K : PySem.W.Frag) (g : G1) : V → Hp → VK → Prop := fun x H Q => ∃ H0 F p, Sg F H ∧ Sm H0 H ∧ Vw K H0 F H x p ∧ (g p).post (fun res => ∀ v F' H', Ext F H F' H' → VRes K H0 H F' H' v res → Q v H') (fun _ _ => False)
def rGN (K : PySem.W.Frag) (g : GN) : List V → Hp → VK → Prop := fun xs H Q => ∃ H0 F ps, Sg F H ∧ Sm H0 H ∧ All2 (Vw K H0 F H) xs ps ∧ (g ps).post (fun res => ∀ v F' H', Ext F H F' H' → VRes K H0 H F' H' v res → Q v H') (fun _ _ => False)
end
theorem pe_le {X : Cx} {e : Expr} {t t' : TE} (h : PE X e t) (l : ∀ σ H Q, t' σ H Q → t σ H Q) : PE X e t' := ⟨fun pins s σ H Q I q => h.run pins s σ H Q I (l σ H Q q)⟩
theorem pt_le {X : Cx} {e : Expr} {t t' : TT} (h : PT X e t) (l : ∀ σ H Q, t' σ H Q → t σ H Q) : PT X e t' := ⟨fun pins s σ H Q I q => h.run pins s σ H Q I (l σ H Q q)⟩
theorem pw_le {X : Cx} {e : Expr} {t t' : TT} (h : PW X e t) (l : ∀ σ H Q, t' σ H Q → t σ H Q) : PW X e t' := ⟨fun wh pins s σ H Q I q => h.run wh pins s σ H Q I (l σ H Q q)⟩
theorem pa_le {X : Cx} {e : List Expr} {t t' : TA} (h : PA X e t) (l : ∀ σ H Q, t' σ H Q → t σ H Q) : PA X e t' := ⟨fun pos pins s σ H Q I q => h.run pos pins s σ H Q I (l σ H Q q)⟩
theorem ps_le {X : Cx} {e : Stmt} {t t' : TS} (h : PS X e t) (l : ∀ D σ H, t' D σ H → t D σ H) : PS X e t' := ⟨fun pins s σ H D I q => h.run pins s σ H D I (l D σ H q)⟩
theorem pss_le {X : Cx} {e : List Stmt} {t t' : TS} (h : PSs X e t) (l : ∀ D σ H, t' D σ H → t D σ H) : PSs X e t' := ⟨fun pins s σ H D I q => h.run pins s σ H D I (l D σ H q)⟩
theorem opr_le {X : Cx} {f : Value → Value → Sem Value} {r r' : R2} (h : OpR X f r) (l : ∀ x y H Q, r' x y H Q → r x y H Q) : OpR X f r' := fun pins s σ H x y v u Q I rx ry q => h pins s σ H x y v u Q I rx ry (l _ _ _ _ q)
section
variable {X : Cx} {W : WX} {a b c : Expr} {fa fb fc : FE} {pos : PySem.Pos}
abbrev DE (X : Cx) (W : WX) (e : Expr) (f : FE) : Prop := PE X e (tE X.K X.mg W f)
abbrev DV (X : Cx) (W : WX) (e : Expr) (f : FV) : Prop := PE X e (tV X.K X.mg W f)
abbrev DD (X : Cx) (W : WX) (e : Expr) (f : FV) : Prop := PE X e (tD X.K X.mg W f)
abbrev DT (X : Cx) (W : WX) (e : Expr) (f : FT) : Prop := PT X e (tT X.K X.mg W f)
theorem DE.v (h : DE X W a fa) : DV X W a (rd fa) := pe_le h fun _ _ _ q => tV_rd q
theorem DE.d (h : DE X W a fa) : DD X W a (st fa) := pe_le h fun _ _ _ q => tD_st q
def fVar (i : Nat) : FE := fun env => match env[i]? with
  | some (some (.sh n d)) => .ok (env, .sh n d)
  | some (some (.ow _ _)) => .ok (env, .own i)
  | _ => .bad
theorem d_var (i : Nat) {x : Str} (hN : X.N[i]? = some x := by rfl) (hv : Vis X.env.scope x := by first | exact Or.inl rfl | exact Or.inr (Or.inl rfl) | exact Or.inr (Or.inr rfl)) (hd : (x == ("__debug__" : Str)) = false := by decide) (hcd : (x == ("__classdict__" : Str)) = false := by decide) : DE X W (.Name x pos) (fVar i) :=
  pe_le (pe_var hN hv hd hcd) fun σ H Q ⟨H0, F0, F, env, r, h⟩ => by
    obtain ⟨fp, rf⟩ := id r
    unfold fVar at h
    split at h
    · rename_i n d q
      obtain ⟨v, h1, h2⟩ := rf.sl i _ q
      exact ⟨v, h1, h v F H ⟨r, h2⟩ (Sm.refl H) (Same.refl F)⟩
    · rename_i n d q
      obtain ⟨v, h1, h2⟩ := rf.sl i _ q
      exact ⟨v, h1, h v F H ⟨r, h1⟩ (Sm.refl H) (Same.refl F)⟩
    · exact h.elim
def fC (d : PyData) : FE := fun env => .ok (env, .sh true d)
theorem c_of {e : Expr} {v : V} {d : PyData} (h : PE X e (tC v)) (hd : ∀ K H0 F, Is K H0 true F v d) : DE X W e (fC d) :=
  pe_le h fun σ H Q ⟨H0, F0, F, env, r, q⟩ => q v F H ⟨r, hd _ _ _⟩ (Sm.refl H) (Same.refl F)
theorem d_int {i : Int} {j} : DE X W (.Constant (.int i) j pos) (fC (.int i)) := c_of pe_int fun _ _ _ => .int i
theorem d_bl {i : Bool} {j} : DE X W (.Constant (.bool i) j pos) (fC (.bool i)) := c_of pe_bl fun _ _ _ => .bl i
theorem d_str {x : Str} {j} : DE X W (.Constant (.str x) j pos) (fC (.str x)) := c_of pe_str fun _ _ _ => .str x
def f2 (g : G2) (fa fb : FV) : FE := fun env => (fa env).bind fun p => (fb p.1).bind fun q => (g p.2 q.2).bind fun r => .ok (q.1, r)
theorem two {g : G2} {fa fb : FV} {σ : St} {H : Hp} {Q : VK} (hg : ∀ p q, Nx (g p q)) (h : tE X.K X.mg W (f2 g fa fb) σ H Q) : tOp (rG2 X.K g) (tV X.K X.mg W fa) (tV X.K X.mg W fb) σ H Q := by
  obtain ⟨H0, F0, F, env, r, h⟩ := h
  refine ⟨H0, F0, F, env, r, ?_⟩
  unfold f2 at h
  refine Rs.post_mono (Rs.post_bind.mp h) (fun p hp v F1 H1 r1 v1 e1 e2 => ?_) fun _ _ x => x
  refine ⟨H0, F0, F1, p.1, r1, ?_⟩
  refine Rs.post_mono (Rs.post_bind.mp hp) (fun q hq u F2 H2 r2 v2 e3 e4 => ?_) fun _ _ x => x.to e2 e1
  refine ⟨H0, F2, p.2, q.2, r2.fz, r2.base, v1.to e4 e3, v2, ?_⟩
  have hq := Rs.post_bind.mp hq
  cases z : g p.2 q.2 with
  | bad => rw [z] at hq; exact hq.elim
  | ex e x => have y := hg p.2 q.2; rw [z] at y; exact y.elim
  | ch m f => have y := hg p.2 q.2; rw [z] at y; exact y.elim
  | ok res =>
    rw [z] at hq
    exact fun w F' H' ex hv => hq w F' H' (hv.rel r2 ex) ((e1.trans e3).trans ex.h) ((e2.trans e4).trans ex.f)
theorem d_op {op : Operator} {g : G2} (hr : OpR X (binaryOp op) (rG2 X.K g)) (hg : ∀ p q, Nx (g p q)) (ha : DE X W a fa) (hb : DE X W b fb) : DE X W (.BinOp a op b pos) (f2 g (rd fa) (rd fb)) :=
  pe_le (pe_op hr ha.v hb.v) fun _ _ _ q => two hg q
theorem d_cmp {op : CmpOp} {g : G2} (hr : OpR X (compareOp op) (rG2 X.K g)) (hg : ∀ p q, Nx (g p q)) (ha : DE X W a fa) (hb : DE X W b fb) (hm : behindInMarks op b = false) : DE X W (.Compare a [op] [b] pos) (f2 g (rd fa) (rd fb)) :=
  pe_le (pe_cmpR hr ha.v hb.v hm) fun _ _ _ q => two hg q
theorem d_ix {g : G2} (hr : IxR X (rG2 X.K g)) (hg : ∀ p q, Nx (g p q)) (ha : DE X W a fa) (hb : DE X W b fb) (hp : PlainIx b) : DE X W (.Subscript a b pos) (f2 g (rd fa) (rd fb)) :=
  pe_le (pe_ix hr ha.v hb.v hp) fun _ _ _ q => two hg q
def f1 (g : G1) (fa : FV) : FE := fun env => (fa env).bind fun p => (g p.2).bind fun r => .ok (p.1, r)
theorem one {g : G1} {fa : FV} {σ : St} {H : Hp} {Q : VK} (hg : ∀ p, Nx (g p)) (h : tE X.K X.mg W (f1 g fa) σ H Q) : tUn (rG1 X.K g) (tV X.K X.mg W fa) σ H Q := by
  obtain ⟨H0, F0, F, env, r, h⟩ := h
  refine ⟨H0, F0, F, env, r, ?_⟩
  unfold f1 at h
  refine Rs.post_mono (Rs.post_bind.mp h) (fun p hp v F1 H1 r1 v1 e1 e2 => ?_) fun _ _ x => x
  refine ⟨H0, F1, p.2, r1.fz, r1.base, v1, ?_⟩
  have hp := Rs.post_bind.mp hp
  cases z : g p.2 with
  | bad => rw [z] at hp; exact hp.elim
  | ex e x => have y := hg p.2; rw [z] at y; exact y.elim
  | ch m f => have y := hg p.2; rw [z] at y; exact y.elim
  | ok res =>
    rw [z] at hp
    exact fun w F' H' ex hv => hp w F' H' (hv.rel r1 ex) (e1.trans ex.h) (e2.trans ex.f)
theorem d_un {op : UnaryOp} {g : G1} (hr : UnR X (unaryOp op) (rG1 X.K g)) (hg : ∀ p, Nx (g p)) (ha : DE X W a fa) : DE X W (.UnaryOp op a pos) (f1 g (rd fa)) :=
  pe_le (pe_un hr ha.v) fun _ _ _ q => one hg q
def fNil : FA := fun env => .ok (env, [])
def fCons (f : FV) (g : FA) : FA := fun env => (f env).bind fun p => (g p.1).bind fun q => .ok (q.1, p.2 :: q.2)
abbrev DAV (X : Cx) (W : WX) (es : List Expr) (f : FA) : Prop := PA X es (tAV X.K X.mg W f)
abbrev DAD (X : Cx) (W : WX) (es : List Expr) (f : FA) : Prop := PA X es (tAD X.K X.mg W f)
theorem dav_nil : DAV X W [] fNil := pa_le pa_nil fun σ H Q ⟨H0, F0, F, env, r, h⟩ => h [] F H r .nil (Sm.refl H) (Same.refl F)
theorem dad_nil : DAD X W [] fNil := pa_le pa_nil fun σ H Q ⟨H0, F0, F, env, r, h⟩ => h [] F H r .nil (Sm.refl H) (Same.refl F)
theorem dav_cons {e : Expr} {es : List Expr} {f : FE} {g : FA} (h : DE X W e f) (t : DAV X W es g) (hs : starEach (e :: es) X.env = (false, eval e X.env) :: starEach es X.env := by rfl) : DAV X W (e :: es) (fCons (rd f) g) :=
  pa_le (pa_cons h.v t hs) fun σ H Q ⟨H0, F0, F, env, r, h⟩ => by
    refine ⟨H0, F0, F, env, r, ?_⟩
    unfold fCons at h
    refine Rs.post_mono (Rs.post_bind.mp h) (fun p hp v F1 H1 r1 v1 e1 e2 => ?_) fun _ _ x => x
    refine ⟨H0, F0, F1, p.1, r1, ?_⟩
    refine Rs.post_mono (Rs.post_bind.mp hp) (fun q hq vs F2 H2 r2 v2 e3 e4 => ?_) fun _ _ x => x.to e2 e1
    exact hq (v :: vs) F2 H2 r2 (.cons (v1.to e4 e3) v2) (e1.trans e3) (e2.trans e4)
theorem dad_cons {e : Expr} {es : List Expr} {f : FE} {g : FA} (h : DE X W e f) (t : DAD X W es g) (hs : starEach (e :: es) X.env = (false, eval e X.env) :: starEach es X.env := by rfl) : DAD X W (e :: es) (fCons (st f) g) :=
  pa_le (pa_cons h.d t hs) fun σ H Q ⟨H0, F0, F, env, r, h⟩ => by
    refine ⟨H0, F0, F, env, r, ?_⟩
    unfold fCons at h
    refine Rs.post_mono (Rs.post_bind.mp h) (fun p hp v F1 H1 r1 v1 e1 e2 => ?_) fun _ _ x => x
    refine ⟨H0, F0, F1, p.1, r1, ?_⟩
    refine Rs.post_mono (Rs.post_bind.mp hp) (fun q hq vs F2 H2 r2 v2 e3 e4 => ?_) fun _ _ x => x.to e2 e1
    exact hq (v :: vs) F2 H2 r2 (.cons (v1.to e4) v2) (e1.trans e3) (e2.trans e4)
def flags (ps : List Dv) : Bool := ps.all (·.1)
def datas (ps : List Dv) : List PyData := ps.map (·.2)
theorem isA_of {K : PySem.W.Frag} {H0 F H : Hp} : ∀ {vs : List V} {ps : List Dv}, All2 (IsV K H0 F H) vs ps → IsA K H0 (flags ps) F vs (datas ps)
  | _, _, .nil => .nil
  | _, _, .cons (b := p) (bs := ps) h t => .cons (Is.le (show Le H0 F p.1 H0 F (flags (p :: ps)) from ⟨Same.refl F, fun z => (Bool.and_eq_true_iff.mp (show (p.1 && ps.all (·.1)) = true from z)).1, fun _ _ _ h => h⟩) h)
      ((isA_of t).le (show Le H0 F (flags ps) H0 F (flags (p :: ps)) from ⟨Same.refl F, fun z => (Bool.and_eq_true_iff.mp (show (p.1 && ps.all (·.1)) = true from z)).2, fun _ _ _ h => h⟩))
def fTup (f : FA) : FE := fun env => (f env).bind fun p => grd (decide (p.2.length ≤ 10000)) (.ok (p.1, .sh (flags p.2) (.tuple (datas p.2))))
def fLst (f : FA) : FE := fun env => (f env).bind fun p => grd (decide (p.2.length ≤ 10000)) (.ok (p.1, .nw (flags p.2) (datas p.2)))
theorem All2.length {α β : Type} {P : α → β → Prop} : ∀ {as : List α} {bs : List β}, All2 P as bs → as.length = bs.length
  | _, _, .nil => rfl
  | _, _, .cons _ t => by simp [t.length]
theorem ten {n : Nat} (h : n ≤ 10000) : n ≤ sizeLine := Nat.le_trans h (by decide)
theorem Inv.laidZ {pins : List (Addr × Obj)} {σ : L2.St} {H : Hp} {s : Shared} {xs : List V} {us : List Value} {t' : Nat} (I : L2.Inv X pins σ H s) (r : Vals xs us) (z : xs.length ≤ sizeLine) :
    L2.Inv X pins σ (upd H s.heap.objs.size (tupZ { cls := .type "tuple", data := .seq us.toArray } xs)) { s with heap := s.heap.push { cls := .type "tuple", data := .seq us.toArray }, toks := t' } := by
  refine I.laid (t' := t') (fun b u e => Heap.get?_push_of_some _ e) (Nat.le_refl _) ?_
  exact ⟨Heap.get?_push_size _ rfl, z, us, r, ⟨_, Heap.get?_push_size _ rfl, rfl, _, rfl⟩⟩
def tTupZ (t : TA) : TE := fun σ H Q => t σ H fun xs H1 => xs.length ≤ sizeLine ∧ ∀ p o, H1 p = none → o.dict = none → Q (.ref p) (upd H1 p (tupZ o xs))
theorem pe_tupZ {es : List Expr} {t : TA} {x1} (h : PA X es t) : PE X (.Tuple es x1 pos) (tTupZ t) := by
  refine ⟨fun pins s σ H Q I hq => ?_⟩
  refine wpAny_Tuple_spliced (thn (h.run pos pins s σ H _ I hq) fun us s1 ⟨xs, H1, I1, r, z, q⟩ => ⟨by rw [← r.length]; exact z, ?_⟩)
  exact ⟨.ref s1.heap.objs.size, _, Inv.laidZ (t' := s1.toks) I1 r z, rfl, q _ _ (I1.hok.fresh (Nat.le_refl _)) rfl⟩
theorem d_tup {es : List Expr} {x1 : Nat} {f : FA} (h : DAD X W es f) : DE X W (.Tuple es x1 pos) (fTup f) :=
  pe_le (pe_tupZ h) fun σ H Q ⟨H0, F0, F, env, r, h⟩ => by
    refine ⟨H0, F0, F, env, r, ?_⟩
    unfold fTup at h
    refine Rs.post_mono (Rs.post_bind.mp h) (fun p hp vs F1 H1 r1 v1 e1 e2 => ?_) fun _ _ x => x
    obtain ⟨hz, hp⟩ := grd_post hp
    refine ⟨by rw [v1.length]; exact ten (of_decide_eq_true hz), fun q ob hq hob => ?_⟩
    refine hp (.ref q) (upd F1 q (tupZ ob vs)) _ ⟨r1.alloc hq, .tup (.new hob) ((isA_of v1).to (same_new (same_none r1.fz hq)))⟩ (e1.trans (same_new hq)) (e2.trans (same_new (same_none r1.fz hq)))
theorem d_lst {es : List Expr} {f : FA} (h : DAD X W es f) : DE X W (.List es pos) (fLst f) :=
  pe_le (pe_lst h) fun σ H Q ⟨H0, F0, F, env, r, h⟩ => by
    refine ⟨H0, F0, F, env, r, ?_⟩
    unfold fLst at h
    refine Rs.post_mono (Rs.post_bind.mp h) (fun p hp vs F1 H1 r1 v1 e1 e2 => ?_) fun _ _ x => x
    obtain ⟨hz, hp⟩ := grd_post hp
    refine ⟨by rw [v1.length]; exact ten (of_decide_eq_true hz), fun q hq => ?_⟩
    exact hp (.ref q) F1 _ (r1.allocO hq (isA_of v1)) (e1.trans (same_new hq)) e2
def lent (env : Env) : Env := env.map fun s => s.map fun s => .sh s.flag s.data
theorem Rel.lend {K : PySem.W.Frag} {H0 F0 F H : Hp} {σ : St} : ∀ (k : Nat) {env : Env}, Rel K H0 F0 env σ F H → k ≤ env.length → ∃ F', Same F F' ∧ Rel K H0 F0 (lent (env.take k) ++ env.drop k) σ F' H
  | 0, env, r, _ => ⟨F, Same.refl F, by simpa [lent] using r⟩
  | k + 1, env, r, hk => by
    obtain ⟨F1, e1, r1⟩ := Rel.lend k r (by omega)
    have hlen : (lent (env.take k)).length = k := by simp [lent]; omega
    have hk' : k < env.length := by omega
    have hget : (lent (env.take k) ++ env.drop k)[k]? = env[k]? := by
      rw [List.getElem?_append_right (by omega), hlen, Nat.sub_self, List.getElem?_drop]; simp
    have hgoal : lent (env.take (k + 1)) ++ env.drop (k + 1) = (lent (env.take k) ++ env.drop k).set k (env[k].map fun s => .sh s.flag s.data) := by
      rw [List.set_append_right _ _ (by omega), hlen, Nat.sub_self, List.drop_eq_getElem_cons hk', List.set_cons_zero, List.take_succ_eq_append_getElem hk']
      unfold lent
      rw [List.map_append, List.append_assoc]
      rfl
    rw [hgoal]
    cases q : env[k] with
    | none =>
      refine ⟨F1, e1, ?_⟩
      have : (lent (env.take k) ++ env.drop k).set k (Option.map (fun s : Sl => .sh s.flag s.data) none) = lent (env.take k) ++ env.drop k := by
        apply List.ext_getElem?
        intro i
        by_cases z : k = i
        · subst z
          rw [List.getElem?_set_self (by simp [hlen]; omega), hget, List.getElem?_eq_getElem hk', q]; rfl
        · rw [List.getElem?_set_ne z]
      rw [this]; exact r1
    | some s =>
      obtain ⟨F2, v, e2, r2, _, _⟩ := r1.share (i := k) (s := s) (by rw [hget, List.getElem?_eq_getElem hk', q])
      exact ⟨F2, e1.trans e2, r2⟩
theorem Rel.lendAll {K : PySem.W.Frag} {H0 F0 F H : Hp} {env : Env} {σ : St} (r : Rel K H0 F0 env σ F H) : ∃ F', Same F F' ∧ Rel K H0 F0 (lent env) σ F' H := by
  obtain ⟨F', e, h⟩ := Rel.lend env.length r (Nat.le_refl _)
  refine ⟨F', e, ?_⟩
  simpa using h
def boolR (env : Env) (r : Rs (Env × Dv)) : Rs Bool := match r with
  | .ok (_, (_, .bool b)) => .ok b
  | .ex _ x => .ex env x
  | .ch m f => .ch m fun i => boolR env (f i)
  | _ => .bad
def fB (f : FV) : FT := fun env => boolR env (f (lent env))
theorem tV_lent {K : PySem.W.Frag} {mg : Str → Option Value} {f : FV} {σ : St} {H : Hp} {Q : Bool → Hp → Prop} (h : tT K mg W (fB f) σ H Q) : tV K mg W f σ H fun x H1 => ∃ c, x = .bl c ∧ Q c H1 := by
  obtain ⟨H0, F0, F, env, r, h⟩ := h
  obtain ⟨F1, e1, r1⟩ := r.lendAll
  refine ⟨H0, F0, F1, lent env, r1, ?_⟩
  unfold fB at h
  generalize f (lent env) = rr at h ⊢
  induction rr with
  | ch m g ih => exact fun j hj => ih j (h j hj)
  | bad => exact h.elim
  | ex e x => exact fun cls dO F' H' r2 a b z => h cls dO F H' (r.heap a) a (Same.refl F) z
  | ok p =>
    obtain ⟨e, n, d⟩ := p
    cases d with
    | bool b =>
      intro v F' H' r2 hv e2 e3
      have : v = .bl b := by
        rcases hv with hv | ⟨_, _, _, _, hv, _⟩
        · cases hv; rfl
        · cases hv
      exact ⟨b, this, h H' (r.heap e2) e2⟩
    | _ => exact h.elim
theorem t_val {e : Expr} {f : FE} (h : DE X W e f) (he : ∀ whole, isTrue e X.env whole = (do let v ← whole; standAt e.pos; holding [v] (truthy v)) := by intro _; rfl) : DT X W e (fB (rd f)) :=
  pt_le (pt_val h.v he) fun _ _ _ q => tV_lent q
theorem t_cmp {op : CmpOp} {g : G2} (hr : OpR X (compareOp op) (rG2 X.K g)) (hg : ∀ p q, Nx (g p q)) (ha : DE X W a fa) (hb : DE X W b fb) (hm : behindInMarks op b = false) : DT X W (.Compare a [op] [b] pos) (fB (rd (f2 g (rd fa) (rd fb)))) :=
  pt_le (pt_cmpR hr ha.v hb.v hm) fun σ H Q q => by
    have := tV_lent q
    exact two hg (tV_rd this)
def fNot (f : FT) : FT := fun env => (f env).bind fun b => .ok (!b)
def fAnd (f g : FT) : FT := fun env => (f env).bind fun b => if b = true then g env else .ok false
def fOr (f g : FT) : FT := fun env => (f env).bind fun b => if b = true then .ok true else g env
theorem t_not {f : FT} (h : DT X W a f) : DT X W (.UnaryOp .Not a pos) (fNot f) := pt_le (pt_not h) fun σ H Q ⟨H0, F0, F, env, r, q⟩ => by
  refine ⟨H0, F0, F, env, r, ?_⟩
  unfold fNot at q
  exact Rs.post_mono (Rs.post_bind.mp q) (fun b hb H' r' e => hb H' r' e) fun _ _ x => x
abbrev DW (X : Cx) (W : WX) (e : Expr) (f : FT) : Prop := PW X e (tT X.K X.mg W f)
theorem w_or1 {f : FT} (h : DT X W a f) : DW X W (.BoolOp .Or [a] pos) f := pw_or1 h
theorem w_or {f g : FT} {rest : List Expr} (h : DT X W a f) (t : DW X W (.BoolOp .Or (b :: rest) pos) g) : DW X W (.BoolOp .Or (a :: b :: rest) pos) (fOr f g) := pw_le (pw_or h t) fun σ H Q ⟨H0, F0, F, env, r, q⟩ => by
  refine ⟨H0, F0, F, env, r, ?_⟩
  unfold fOr at q
  refine Rs.post_mono (Rs.post_bind.mp q) (fun c hc H' r' e => ?_) fun _ _ x => x
  cases c with
  | false => exact ⟨H0, F0, F, env, r', Rs.post_mono hc (fun b hb H2 r2 e2 => hb H2 r2 (e.trans e2)) fun _ _ x => x.to (Same.refl F) e⟩
  | true => exact hc H' r' e
theorem DW.t {e : Expr} {f : FT} (h : DW X W e f) : DT X W e f := PW.pt h
def fIf (t : FT) (f g : FE) : FE := fun env => (t env).bind fun b => if b = true then f env else g env
theorem d_if {t : FT} (h : DT X W c t) (ha : DE X W a fa) (hb : DE X W b fb) : DE X W (.IfExp c a b pos) (fIf t fa fb) := pe_le (pe_ifExp h ha hb) fun σ H Q ⟨H0, F0, F, env, r, q⟩ => by
  refine ⟨H0, F0, F, env, r, ?_⟩
  unfold fIf at q
  refine Rs.post_mono (Rs.post_bind.mp q) (fun d hd H' r' e => ?_) fun _ _ x => x
  cases d with
  | true => exact ⟨H0, F0, F, env, r', Rs.post_mono hd (fun p hp v F' H2 r2 e2 e3 => hp v F' H2 r2 (e.trans e2) e3) fun _ _ x => x.to (Same.refl F) e⟩
  | false => exact ⟨H0, F0, F, env, r', Rs.post_mono hd (fun p hp v F' H2 r2 e2 e3 => hp v F' H2 r2 (e.trans e2) e3) fun _ _ x => x.to (Same.refl F) e⟩
end
end Dn
namespace Dn
open PySem PySem.Spec L2 A1 A2 A3
mutual
inductive NkH (H : Hp) : NestedKey → V → Prop
  | num (i : Int) : NkH H (.num i) (.int i)
  | tup {b : Addr} {ks : List NestedKey} {vs : List V} : Rd H b (.tup vs) → NkA H ks vs → NkH H (.tup ks) (.ref b)
inductive NkA (H : Hp) : List NestedKey → List V → Prop
  | nil : NkA H [] []
  | cons {k : NestedKey} {v : V} {ks : List NestedKey} {vs : List V} : NkH H k v → NkA H ks vs → NkA H (k :: ks) (v :: vs)
end
section
variable {K : PySem.W.Frag} {H0 F H : Hp} {n : Bool}
mutual
theorem is_nk0 (fz : Sg F H) : ∀ (d : PyData) {v : V} {k : NestedKey}, Is K H0 n F v d → nkey d = some k → NkH H k v
  | .int i, v, k, h, e => by
    unfold nkey at e
    cases e
    cases h
    exact .num i
  | .tuple ds, v, k, h, e => by
    unfold nkey at e
    cases q : nkeyL ds with
    | none => rw [q] at e; cases e
    | some ks =>
      rw [q] at e
      cases e
      cases h with
      | tup h a => exact .tup (same_rd fz h.rd) (isA_nk0 fz ds a q)
  | .none, _, _, _, e => by simp only [nkey] at e; cases e
  | .bool _, _, _, _, e => by simp only [nkey] at e; cases e
  | .str _, _, _, _, e => by simp only [nkey] at e; cases e
  | .list _, _, _, _, e => by simp only [nkey] at e; cases e
  | .dict _, _, _, _, e => by simp only [nkey] at e; cases e
theorem isA_nk0 (fz : Sg F H) : ∀ (ds : List PyData) {vs : List V} {ks : List NestedKey}, IsA K H0 n F vs ds → nkeyL ds = some ks → NkA H ks vs
  | [], vs, ks, h, e => by
    unfold nkeyL at e
    cases e
    cases h
    exact .nil
  | d :: ds, vs, ks, h, e => by
    unfold nkeyL at e
    split at e
    · rename_i k ks q1 q2
      cases e
      cases h with
      | cons h t => exact .cons (is_nk0 fz d h q1) (isA_nk0 fz ds t q2)
    · cases e
end
theorem is_nk (fz : Sg F H) {d : PyData} {v : V} {k : NestedKey} (h : Is K H0 n F v d) (e : nkey d = some k) : NkH H k v := is_nk0 fz d h e
mutual
theorem nk_hash (w : World) : ∀ {k : NestedKey} {v : V}, NkH H k v → NestedKey.hash w k = nh k
  | _, _, .num i => by unfold NestedKey.hash nh; rfl
  | _, _, .tup h a => by unfold NestedKey.hash nh; rw [nk_hashes w a]
theorem nk_hashes (w : World) : ∀ {ks : List NestedKey} {vs : List V}, NkA H ks vs → NestedKey.hashes w ks = nhs ks
  | _, _, .nil => by unfold NestedKey.hashes nhs; rfl
  | _, _, .cons h t => by unfold NestedKey.hashes nhs; rw [nk_hash w h, nk_hashes w t]
end
end
mutual
theorem nk_is {P : Program} {w : World} {H : Hp} {h : Heap} (ok : HOk P w H h) : ∀ {k : NestedKey} {v : V} {u : Value}, NkH H k v → RelV v u → NestedIs h k u
  | _, _, _, .num i, r => by obtain ⟨t, rfl⟩ := (show ∃ t, _ = Value.int i t from r); exact .int i t
  | _, _, _, .tup (b := b) (vs := vs) e a, r => by
    cases r
    obtain ⟨_, its, rv, o, h1, h2, n, h3⟩ := (show ObjOk P w H h b (.tup vs) from e.ok ok)
    exact .tup h1 h2 h3 (by simpa using nks_is ok a rv)
theorem nks_is {P : Program} {w : World} {H : Hp} {h : Heap} (ok : HOk P w H h) : ∀ {ks : List NestedKey} {vs : List V} {us : List Value}, NkA H ks vs → Vals vs us → NestedAll h ks us
  | _, _, _, .nil, r => by cases r; exact .nil
  | _, _, _, .cons a t, r => by cases r with | cons r1 r2 => exact .cons (nk_is ok a r1) (nks_is ok t r2)
end
def KeysN (H : Hp) (xs : List NX) : Prop := ∀ x ∈ xs, x.1.depth ≤ 8 ∧ NkH H x.1 (.ref x.2.1)
theorem dN_rd {P : Program} {w : World} {H : Hp} {h : Heap} {p : Addr} {xs : List NX} (ok : HOk P w H h) (e : Rd H p (dN p xs)) (hk : KeysN H xs) : xs.length ≤ sizeLine ∧ (p == sysModules) = false ∧ h.DictOfH (nestedKind P w) p xs := by
  obtain ⟨⟨⟨z1, z2, z3⟩, o, es, ep, h1, h2, h3, h4⟩, _⟩ := (show ObjOk P w H h p (dN p xs) from rd_of ok e)
  refine ⟨z1, z2, o, es, ep, h1, h2, h3, ?_, fun x hx => ⟨nk_is ok (hk x hx).2 rfl, (hk x hx).1⟩, z3⟩
  rw [h4]
  refine List.map_congr_left fun x hx => ?_
  unfold entN entryOfKey
  rw [show (nestedKind P w).hash x.1 = nh x.1 from nk_hash w (hk x hx).2]
theorem dN_ok {P : Program} {w : World} {H H1 : Hp} {h : Heap} {p : Addr} {xs : List NX} (hk : KeysN H xs) (z : xs.length ≤ sizeLine) (lo : (p == sysModules) = false) (d : h.DictOfH (nestedKind P w) p xs) : ObjOk P w H1 h p (dN p xs) := by
  obtain ⟨o, es, ep, h1, h2, h3, h4, _, h5⟩ := d
  refine ⟨⟨⟨z, lo, h5⟩, o, es, ep, h1, h2, h3, ?_⟩, ⟨o, h1⟩, fun g1 g2 ⟨g, o', es', ep', k1, k2, k3, k4⟩ k => ⟨g, o', es', ep', k o' k1, k2, k3, k4⟩⟩
  rw [h4]
  refine List.map_congr_left fun x hx => ?_
  unfold entN entryOfKey
  rw [show (nestedKind P w).hash x.1 = nh x.1 from nk_hash w (hk x hx).2]
def entsU : PyData → Option (List (PyData × PyData))
  | .dict ((.int 5, .none) :: q) => some q
  | .dict ((.int 6, .none) :: q) => some q
  | _ => none
def entsK : PyData → Option (List (PyData × PyData))
  | .dict ((.int 4, .none) :: q) => some q
  | _ => none
def encK (q : List (PyData × PyData)) : PyData := .dict ((.int 4, .none) :: q)
def keyU (d : PyData) : Option NestedKey := match nkey d with
  | some (.tup ks) => if (NestedKey.tup ks).depth ≤ 8 then some (.tup ks) else none
  | _ => none
def lookU (q : List (PyData × PyData)) (k : NestedKey) : Option PyData := (q.find? fun e => decide (nkey e.1 = some k)).map (·.2)
def keyK : PyData → Option Key
  | .int i => some (.inl i)
  | .str x => some (.inr x)
  | _ => none
def lookK (q : List (PyData × PyData)) (k : Key) : Option PyData := (q.find? fun e => decide (keyK e.1 = some k)).map (·.2)
theorem keyU_some {d : PyData} {k : NestedKey} (h : keyU d = some k) : nkey d = some k ∧ k.depth ≤ 8 ∧ ∃ ks, k = .tup ks := by
  unfold keyU at h
  split at h
  · rename_i ks e
    split at h
    · rename_i z
      cases h
      exact ⟨e, z, ks, rfl⟩
    · cases h
  · cases h
theorem zip_ends {α β : Type} : ∀ {ks : List α} {ds : List β}, ks.length = ds.length → (ks.zip ds).map (·.1) = ks ∧ (ks.zip ds).map (·.2) = ds
  | [], [], _ => ⟨rfl, rfl⟩
  | _ :: ks, _ :: ds, h => by
    obtain ⟨h1, h2⟩ := zip_ends (ks := ks) (ds := ds) (by simpa using h)
    rw [List.zip_cons_cons, List.map_cons, List.map_cons, h1, h2]
    exact ⟨rfl, rfl⟩
section
variable {K : PySem.W.Frag} {H0 F H : Hp} {v : V} {n : Bool}
theorem entsU_some {d : PyData} {q : List (PyData × PyData)} (h : entsU d = some q) : d = encU q ∨ d = encUL q := by
  unfold entsU at h
  split at h
  · cases h; exact .inl rfl
  · cases h; exact .inr rfl
  · cases h
theorem entsK_some {d : PyData} {q : List (PyData × PyData)} (h : entsK d = some q) : d = encK q := by
  unfold entsK at h
  split at h
  · cases h; rfl
  · cases h
structure EnF (K : PySem.W.Frag) (H0 : Hp) (n : Bool) (F : Hp) (xs : List NX) (q : List (PyData × PyData)) : Prop where
  keys : IsA K H0 n F (xs.map fun x => V.ref x.2.1) (q.map (·.1))
  vals : ∃ vs, Vals vs (xs.map fun x => x.2.2) ∧ IsA K H0 n F vs (q.map (·.2))
  nk : NkU xs (q.map (·.1))
theorem EnF.weak {xs : List NX} {q : List (PyData × PyData)} (h : EnF K H0 n F xs q) : EnU K H0 F xs q := ⟨h.keys.weak (Same.refl F), let ⟨vs, a, b⟩ := h.vals; ⟨vs, a, b.weak (Same.refl F)⟩, h.nk⟩
theorem du_lens {xs : List NX} {ks ds : List PyData} {vs : List V} (h1 : IsA K H0 n F (xs.map fun x => V.ref x.2.1) ks) (h2 : Vals vs (xs.map fun x => x.2.2)) (h3 : IsA K H0 n F vs ds) : ks.length = ds.length := by
  have a := h1.length
  have b := h2.length
  have c := h3.length
  simp only [List.length_map] at a b
  omega
theorem is_du {q : List (PyData × PyData)} (h : Is K H0 n F v (encU q)) : ∃ a xs, v = .ref a ∧ Rd F a (dN a xs) ∧ EnF K H0 n F xs q := by
  unfold encU at h
  generalize e : ((.int 5, .none) :: q : List (PyData × PyData)) = l at h
  cases h with
  | @du a xs ks ds vs h1 h2 h3 h4 h5 h6 =>
    obtain rfl := (List.cons.inj e).2
    obtain ⟨e1, e2⟩ := zip_ends (du_lens h3 h4 h5)
    exact ⟨a, xs, rfl, h1, by rw [e1]; exact h3, ⟨vs, h4, by rw [e2]; exact h5⟩, by rw [e1]; exact h6⟩
  | dk _ _ _ => cases (List.cons.inj e).1
  | dt _ _ _ => cases (List.cons.inj e).1
  | dl _ _ _ => cases (List.cons.inj e).1
  | exc _ _ _ _ => cases (List.cons.inj e).1
  | nst _ _ _ => cases (List.cons.inj e).1
  | pl _ => cases (List.cons.inj e).1
  | kl _ _ _ => cases (List.cons.inj e).1
  | dul _ _ _ _ _ _ => cases (List.cons.inj e).1
theorem is_dul {q : List (PyData × PyData)} (h : Is K H0 n F v (encUL q)) : ∃ a o xs, v = .ref a ∧ F a = some (.frz o (dN a xs)) ∧ EnF K H0 n F xs q := by
  unfold encUL at h
  generalize e : ((.int 6, .none) :: q : List (PyData × PyData)) = l at h
  cases h with
  | @dul a o xs ks ds vs h1 h2 h3 h4 h5 h6 =>
    obtain rfl := (List.cons.inj e).2
    obtain ⟨e1, e2⟩ := zip_ends (du_lens h3 h4 h5)
    exact ⟨a, o, xs, rfl, h1, by rw [e1]; exact h3, ⟨vs, h4, by rw [e2]; exact h5⟩, by rw [e1]; exact h6⟩
  | dk _ _ _ => cases (List.cons.inj e).1
  | dt _ _ _ => cases (List.cons.inj e).1
  | dl _ _ _ => cases (List.cons.inj e).1
  | exc _ _ _ _ => cases (List.cons.inj e).1
  | nst _ _ _ => cases (List.cons.inj e).1
  | pl _ => cases (List.cons.inj e).1
  | kl _ _ _ => cases (List.cons.inj e).1
  | du _ _ _ _ _ _ => cases (List.cons.inj e).1
theorem is_kl {q : List (PyData × PyData)} (h : Is K H0 n F v (encK q)) : ∃ a o kvs, v = .ref a ∧ F a = some (.frz o (.dK kvs)) ∧ IsA K H0 n F (kvs.map (·.2)) (q.map (·.2)) ∧ q.map (·.1) = kvs.map fun p => kD p.1 := by
  unfold encK at h
  generalize e : ((.int 4, .none) :: q : List (PyData × PyData)) = l at h
  cases h with
  | @kl a o kvs ds h1 h2 h3 =>
    obtain rfl := (List.cons.inj e).2
    obtain ⟨e1, e2⟩ := zip_ends (ks := kvs.map fun p => kD p.1) (ds := ds) (by have := h3.length; simpa using this)
    exact ⟨a, o, kvs, rfl, h1, by rw [e2]; exact h3, e1⟩
  | dk _ _ _ => cases (List.cons.inj e).1
  | dt _ _ _ => cases (List.cons.inj e).1
  | dl _ _ _ => cases (List.cons.inj e).1
  | exc _ _ _ _ => cases (List.cons.inj e).1
  | nst _ _ _ => cases (List.cons.inj e).1
  | pl _ => cases (List.cons.inj e).1
  | dul _ _ _ _ _ _ => cases (List.cons.inj e).1
  | du _ _ _ _ _ _ => cases (List.cons.inj e).1
theorem is_ents {d : PyData} {q : List (PyData × PyData)} (h : Is K H0 n F v d) (e : entsU d = some q) : ∃ a xs, v = .ref a ∧ Rd F a (dN a xs) ∧ EnF K H0 n F xs q := by
  rcases entsU_some e with rfl | rfl
  · exact is_du h
  · obtain ⟨a, o, xs, h1, h2, h3⟩ := is_dul h
    exact ⟨a, xs, h1, .inr ⟨o, h2⟩, h3⟩
theorem vw_dict {p : List (PyData × PyData)} (h : Vw K H0 F H v (n, .dict p)) : Is K H0 n F v (.dict p) := by
  rcases h with h | ⟨_, _, _, _, h, _⟩
  · exact h
  · cases h
theorem vw_ents {d : PyData} {q : List (PyData × PyData)} (h : Vw K H0 F H v (n, d)) (e : entsU d = some q) : ∃ a xs, v = .ref a ∧ Rd F a (dN a xs) ∧ EnF K H0 n F xs q := by
  rcases entsU_some e with rfl | rfl
  · exact is_ents (vw_dict h) e
  · exact is_ents (vw_dict h) e
theorem nk_tup {d : PyData} {k : NestedKey} {u : V} (fz : Sg F H) (h : Vw K H0 F H u (n, d)) (e : keyU d = some k) : ∃ b, u = .ref b ∧ NkH H k (.ref b) := by
  obtain ⟨e1, _, ks, rfl⟩ := keyU_some e
  have hi : Is K H0 n F u d := by
    rcases h with h | ⟨_, _, _, _, h, _⟩
    · exact h
    · dsimp only at h
      subst h
      unfold nkey at e1
      cases e1
  have := is_nk fz hi e1
  cases this with
  | tup a b => exact ⟨_, rfl, .tup a b⟩
theorem EnF.depth {xs : List NX} {q : List (PyData × PyData)} (h : EnF K H0 n F xs q) (fz : Sg F H) : KeysN H xs := by
  obtain ⟨h1, _, h2, h3⟩ := h
  have go : ∀ {xs : List NX} {ks : List PyData}, IsA K H0 n F (xs.map fun x => V.ref x.2.1) ks → (xs.map fun x => some x.1) = ks.map nkey → ∀ x ∈ xs, NkH H x.1 (.ref x.2.1) := by
    intro xs
    induction xs with
    | nil => intro ks _ _ x hx; cases hx
    | cons y xs ih =>
      intro ks hk he x hx
      cases ks with
      | nil => cases he
      | cons d ks =>
        rw [List.map_cons] at hk
        cases hk with
        | cons hk ht =>
          rw [List.map_cons, List.map_cons] at he
          obtain ⟨e1, e2⟩ := List.cons.inj he
          rcases List.mem_cons.mp hx with rfl | hx
          · exact is_nk fz hk e1.symm
          · exact ih ht e2 x hx
  exact fun x hx => ⟨h3 x hx, go h1 h2 x hx⟩
theorem en_at {k : NestedKey} : ∀ {xs : List NX} {q : List (PyData × PyData)} {vs : List V}, Vals vs (xs.map fun x => x.2.2) → IsA K H0 n F vs (q.map (·.2)) → (xs.map fun x => some x.1) = (q.map (·.1)).map nkey →
    (∃ b u y d, atKey xs k = some (b, u) ∧ lookU q k = some d ∧ RelV y u ∧ Is K H0 n F y d) ∨ (atKey xs k = none ∧ lookU q k = none)
  | [], [], _, _, _, _ => .inr ⟨rfl, rfl⟩
  | [], _ :: _, _, _, _, h3 => by cases h3
  | _ :: _, [], _, _, _, h3 => by cases h3
  | x :: xs, e :: q, vs, hv, h2, h3 => by
    rw [List.map_cons, List.map_cons, List.map_cons] at h3
    obtain ⟨e1, e2⟩ := List.cons.inj h3
    rw [List.map_cons] at hv
    cases hv with
    | cons r rv =>
      rw [List.map_cons] at h2
      cases h2 with
      | cons i2 t2 =>
        by_cases z : x.1 = k
        · refine .inl ⟨x.2.1, x.2.2, _, _, ?_, ?_, r, i2⟩
          · unfold atKey; rw [List.find?_cons_of_pos (by simpa using z)]; rfl
          · unfold lookU; rw [List.find?_cons_of_pos (by rw [← e1, z]; exact decide_eq_true rfl)]; rfl
        · have n1 : ¬ decide (x.1 = k) = true := by simpa using z
          have n2 : ¬ decide (nkey e.1 = some k) = true := by
            rw [← e1]; simpa using z
          have := en_at (k := k) rv t2 e2
          unfold atKey lookU at this ⊢
          rw [show ((x :: xs).find? fun x => decide (x.1 = k)) = xs.find? fun x => decide (x.1 = k) from List.find?_cons_of_neg n1, show ((e :: q).find? fun e => decide (nkey e.1 = some k)) = q.find? fun e => decide (nkey e.1 = some k) from List.find?_cons_of_neg n2]
          exact this
theorem EnF.at {k : NestedKey} {xs : List NX} {q : List (PyData × PyData)} (h : EnF K H0 n F xs q) : (∃ b u y d, atKey xs k = some (b, u) ∧ lookU q k = some d ∧ RelV y u ∧ Is K H0 n F y d) ∨ (atKey xs k = none ∧ lookU q k = none) :=
  let ⟨_, hv, h2⟩ := h.vals; en_at hv h2 h.nk.1
theorem keyK_D (k : Key) : keyK (kD k) = some k := by cases k <;> rfl
theorem vwi {i : Int} {u : V} (h : Vw K H0 F H u (n, .int i)) : u = .int i := by
  rcases h with h | ⟨_, _, _, _, h, _⟩
  · cases h; rfl
  · cases h
theorem vws {x : Str} {u : V} (h : Vw K H0 F H u (n, .str x)) : u = .str x := by
  rcases h with h | ⟨_, _, _, _, h, _⟩
  · cases h; rfl
  · cases h
theorem keyK_val {d : PyData} {k : Key} {u : V} (h : Vw K H0 F H u (n, d)) (e : keyK d = some k) : u = kV k := by
  unfold keyK at e
  split at e
  · cases e; exact vwi h
  · cases e; exact vws h
  · cases e
theorem kl_at {k : Key} : ∀ {kvs : List (Key × V)} {q : List (PyData × PyData)}, IsA K H0 n F (kvs.map (·.2)) (q.map (·.2)) → (q.map (·.1) = kvs.map fun p => kD p.1) → (∃ y d, valV kvs k = some y ∧ lookK q k = some d ∧ Is K H0 n F y d) ∨ (valV kvs k = none ∧ lookK q k = none)
  | [], q, h, e => by
    cases q with
    | nil => exact .inr ⟨rfl, rfl⟩
    | cons _ _ => cases e
  | (j, y) :: kvs, q, h, e => by
    cases q with
    | nil => cases e
    | cons p q =>
      rw [List.map_cons, List.map_cons] at e h
      obtain ⟨e1, e2⟩ := List.cons.inj e
      cases h with
      | cons i t =>
        by_cases z : j = k
        · refine .inl ⟨y, p.2, ?_, ?_, i⟩
          · unfold valV; rw [List.find?_cons_of_pos (by simpa using z)]; rfl
          · unfold lookK; rw [List.find?_cons_of_pos (by rw [e1, keyK_D]; simpa using z)]; rfl
        · have n1 : ¬ decide (j = k) = true := by simpa using z
          have n2 : ¬ decide (keyK p.1 = some k) = true := by rw [e1, keyK_D]; simpa using z
          have := kl_at (k := k) t e2
          unfold valV lookK at this ⊢
          rw [show (((j, y) :: kvs).find? fun kv => decide (kv.1 = k)) = kvs.find? fun kv => decide (kv.1 = k) from List.find?_cons_of_neg n1, show ((p :: q).find? fun e => decide (keyK e.1 = some k)) = q.find? fun e => decide (keyK e.1 = some k) from List.find?_cons_of_neg n2]
          exact this
end
def ItkN (d : Addr) (o : Obj) (xs : List NX) : It :=
  ⟨fun i H => H d = some (.frz o (dN d xs)) ∧ i < xs.length, fun i H v H' => H' = H ∧ ∃ x, xs[i]? = some x ∧ v = .ref x.2.1, fun i H => H d = some (.frz o (dN d xs)) ∧ xs.length ≤ i⟩
section
variable {X : Cx} {pins : List (Addr × Obj)} {σ : St} {H : Hp} {s : Shared} {d : Addr} {o : Obj} {xs : List NX} {vs : List V}
theorem frzN (I : L2.Inv X pins σ H s) (h : H d = some (.frz o (dN d xs))) : (d == sysModules) = false ∧ s.heap.get? d = some o ∧ o.ExactDict ∧ ∃ (es : Array DictEntry) (ep : Nat), o.data = .dict es ep ∧ es.size = xs.length ∧ ∀ (i : Nat) (x : NX), xs[i]? = some x → ∃ en : DictEntry, es[i]? = some en ∧ en.key = .ref x.2.1 ∧ en.val = x.2.2 := by
  obtain ⟨hd, ⟨⟨_, lo, _⟩, o', es, ep, h1, h2, h3, h4⟩, _⟩ := (show ObjOk X.prog X.w H s.heap d (.frz o (dN d xs)) from I.hok d _ h)
  rw [hd] at h1
  cases h1
  refine ⟨lo, hd, h2, es, ep, h3, ?_, fun i x e => ?_⟩
  · have := congrArg List.length h4
    simpa using this
  · have : es.toList[i]? = some (entN x) := by rw [h4, List.getElem?_map, e]; rfl
    exact ⟨entN x, by rwa [Array.getElem?_toList] at this, rfl, rfl⟩
theorem turn_keysN {P : Program} {w : World} {K : PySem.W.Frag} {tg : Expr} {es : Array DictEntry} {ep : Nat} (it : Addr) (hod : o.data = .dict es ep) : Turn P w K tg (ItkN d o xs) [it] it (fun i h => h.IsKeyIter it d i xs.length ep) where
  mem := by simp
  obj := fun i h st b hb => by
    obtain rfl : b = it := by simpa using hb
    obtain ⟨oi, e, c, dd⟩ := st
    exact ⟨oi, e, fun v z => by rw [dd] at z; cases z⟩
  keep := fun i h h' st k => st.at fun oi e => k it List.mem_cons_self oi e
  item := by
    intro X e1 e2 e3 hc i pins s σ H E I hf st hg
    subst e1 e2 e3
    obtain ⟨hd, hi⟩ := hg
    obtain ⟨f0, f1, f2, f3, f4, f5⟩ := hf it List.mem_cons_self
    obtain ⟨lo, hgd, hx, es', ep', hdt, hsz, ent⟩ := frzN I hd
    obtain ⟨rfl, rfl⟩ := dict_ep hod hdt
    have hxs : xs[i]? = some xs[i] := List.getElem?_eq_getElem hi
    obtain ⟨en, hen, hkey, _⟩ := ent i _ hxs
    refine next_key_item st hgd hdt hsz hen fun h' st' sb => ?_
    have J : L2.Inv X pins σ H { s with heap := h' } := I.turned (t' := s.toks) (fun b ob hb e => (sb.2 b hb).trans e) f0 f1 f3 f4 f5
    obtain ⟨oi, e, c, dd⟩ := _root_.id st'
    exact ⟨en.key, rfl, go_of (s := { s with heap := h' }) e c dd (by decide) ⟨.ref xs[i].2.1, H, J, hkey, ⟨rfl, xs[i], hxs, rfl⟩, st', fun b hb => (hf b hb).1⟩⟩
  done := by
    intro X e1 e2 e3 hc i pins s σ H E I hf st hg
    subst e1 e2 e3
    obtain ⟨hd, hi⟩ := hg
    obtain ⟨f0, f1, f2, f3, f4, f5⟩ := hf it List.mem_cons_self
    obtain ⟨lo, hgd, hx, es', ep', hdt, hsz, ent⟩ := frzN I hd
    obtain ⟨rfl, rfl⟩ := dict_ep hod hdt
    exact next_key_end (I.ok.hd hc) st hgd hdt hsz hi fun h' eb => ⟨rfl, I.turned (t' := s.toks) (fun b ob hb e => eb b ob hb e) f0 f1 f3 f4 f5⟩
  self := fun A i s Q E st h => (turn_keysT (P := P) (w := w) (K := K) (tg := tg) (d := d) (kvs := xs.map fun _ => ([], V.non)) it hod).self A i s Q E (by rw [List.length_map]; exact st) h
end
end Dn
namespace Dn
open PySem PySem.Spec L2 A1 A2 A3
inductive Out where
  | nx (e : Env)
  | rt (r : R)
  | bk (e : Env)
  | ct (e : Env)
abbrev FS := Env → Rs Out
def ExS (K : PySem.W.Frag) (mg : Str → Option Value) (W : WX) (H0 F0 F : Hp) (e : Env) (x : Exn) : Prop := ∀ cls dO σ F' H', Rel K H0 F0 e σ F' H' → Same F F' → ∀ H3, exnIs mg x cls dO H' H3 → W cls dO σ H3
def OutP (K : PySem.W.Frag) (H0 F0 F : Hp) (D : Ends) : Out → Prop
  | .nx e => ∀ σ' F' H', Rel K H0 F0 e σ' F' H' → Same F F' → D.nx σ' H'
  | .bk e => ∀ σ' F' H', Rel K H0 F0 e σ' F' H' → Same F F' → D.bk σ' H'
  | .ct e => ∀ σ' F' H', Rel K H0 F0 e σ' F' H' → Same F F' → D.ct σ' H'
  | .rt r => ∀ v F' H', Same F F' → Sg F' H' → Sm H0 H' → (∀ a, F' a ≠ none → F0 a ≠ none ∨ H0 a = none) → VRes K H0 H0 F' H' v r → D.rt v H'
def tS (K : PySem.W.Frag) (mg : Str → Option Value) (W : WX) (f : FS) : TS := fun D σ H => ∃ H0 F0 F env, Rel K H0 F0 env σ F H ∧ (f env).post (OutP K H0 F0 F D) (ExS K mg W H0 F0 F)
abbrev DS (X : Cx) (W : WX) (s : Stmt) (f : FS) : Prop := PS X s (tS X.K X.mg W f)
abbrev DSs (X : Cx) (W : WX) (s : List Stmt) (f : FS) : Prop := PSs X s (tS X.K X.mg W f)
section
variable {K : PySem.W.Frag} {mg : Str → Option Value} {W : WX} {H0 F0 F F' H H' : Hp} {env : Env} {σ : St} {D : Ends}
theorem OutP.to {o : Out} (h : OutP K H0 F0 F D o) (e : Same F F') : OutP K H0 F0 F' D o := by
  cases o with
  | nx e1 => exact fun σ' F2 H2 r q => h σ' F2 H2 r (e.trans q)
  | bk e1 => exact fun σ' F2 H2 r q => h σ' F2 H2 r (e.trans q)
  | ct e1 => exact fun σ' F2 H2 r q => h σ' F2 H2 r (e.trans q)
  | rt r => exact fun v F2 H2 q => h v F2 H2 (e.trans q)
theorem ExS.to {e : Env} {x : Exn} (h : ExS K mg W H0 F0 F e x) (q : Same F F') : ExS K mg W H0 F0 F' e x := fun cls dO σ' F2 H2 r a b => h cls dO σ' F2 H2 r (q.trans a) b
theorem ExS.p {e : Env} {x : Exn} (h : ExS K mg W H0 F0 F e x) (q : Same F F') : ExP K mg W H0 F0 F' H σ e x := fun cls dO F2 H2 r _ a b => h cls dO σ F2 H2 r (q.trans a) b
theorem rel_new (r : Rel K H0 F0 env σ F H) : ∀ a, F a ≠ none → F0 a ≠ none ∨ H0 a = none := let ⟨_, h⟩ := r; h.new
end
section
variable {X : Cx} {W : WX} {e : Expr} {f : FE} {pos : PySem.Pos} {s : Stmt} {g h : FS} {rest : List Stmt}
def fNext : FS := fun env => .ok (.nx env)
theorem via {te : TE} {D : Ends} {σ : St} {H : Hp} {k : Env × R → Rs Out} {Q : VK} (h : tS X.K X.mg W (fun env => (f env).bind k) D σ H)
    (hq : ∀ H0 F0 F env p, Rel X.K H0 F0 env σ F H → (k p).post (OutP X.K H0 F0 F D) (ExS X.K X.mg W H0 F0 F) → ∀ v F' H', RelR X.K H0 F0 p.1 σ F' H' v p.2 → Sm H H' → Same F F' → Q v H') : tE X.K X.mg W f σ H Q := by
  obtain ⟨H0, F0, F, env, r, h⟩ := h
  refine ⟨H0, F0, F, env, r, ?_⟩
  exact Rs.post_mono (Rs.post_bind.mp h) (fun p hp => hq H0 F0 F env p r hp) fun _ _ x => x.p (Same.refl F)
def fDrop (f : FE) : FS := fun env => (f env).bind fun p => .ok (.nx p.1)
theorem s_expr (he : DE X W e f) (hs : swapsWith e none pos.line X.env = pure false := by rfl) : DS X W (.Expr e pos) (fDrop f) :=
  ps_le (ps_expr he hs) fun D σ H q => via (te := tC .non) q fun H0 F0 F env p r hp v F' H' hr _ e2 => by
    obtain ⟨e1, k⟩ := p
    cases k with
    | sh n d => exact hp σ F' H' hr.1 e2
    | nw n ds => exact hp σ F' H' (Rel.pop hr) e2
    | own i => exact hp σ F' H' hr.1 e2
theorem s_pass : DS X W (.Pass pos) fNext := ps_le ps_pass fun D σ H ⟨H0, F0, F, env, r, h⟩ => h σ F H r (Same.refl F)
def fSeq (g h : FS) : FS := fun env => (g env).bind fun o => match o with
  | .nx e => h e
  | o => .ok o
theorem ss_nil : DSs X W [] fNext := pss_le pss_nil fun D σ H ⟨H0, F0, F, env, r, h⟩ => h σ F H r (Same.refl F)
theorem ss_cons (h1 : DS X W s g) (h2 : DSs X W rest h) : DSs X W (s :: rest) (fSeq g h) :=
  pss_le (pss_cons h1 h2) fun D σ H ⟨H0, F0, F, env, r, q⟩ => by
    refine ⟨H0, F0, F, env, r, ?_⟩
    unfold fSeq at q
    refine Rs.post_mono (Rs.post_bind.mp q) (fun o ho => ?_) fun _ _ x => x
    cases o with
    | nx e1 => exact fun σ' F' H' r' e2 => ⟨H0, F0, F', e1, r', Rs.post_mono ho (fun _ z => z.to e2) fun _ _ z => z.to e2⟩
    | bk e1 => exact ho
    | ct e1 => exact ho
    | rt r1 => exact ho
theorem ss_one (h1 : DS X W s g) : DSs X W [s] g :=
  pss_le (pss_one h1) fun D σ H q => q
def fRet (f : FE) : FS := fun env => (f env).bind fun p => match p.2 with
  | .sh n d => .ok (.rt (.sh n d))
  | .nw n ds => .ok (.rt (.nw n ds))
  | .own i => match p.1[i]? with
    | some (some (.ow n ds)) => .ok (.rt (.nw n ds))
    | _ => .bad
theorem s_ret (he : DE X W e f) : DS X W (.Return (some e) pos) (fRet f) :=
  ps_le (ps_ret he) fun D σ H q => via (te := tC .non) q fun H0 F0 F env p r hp v F' H' hr _ e2 => by
    obtain ⟨e1, k⟩ := p
    cases k with
    | sh n d => exact hp v F' H' e2 hr.1.fz hr.1.base (rel_new hr.1) hr.2
    | nw n ds =>
      obtain ⟨fp, rf⟩ := hr
      obtain ⟨u, hu, a, xs, rfl, k1, k2, k3⟩ := rf.sl e1.length _ app_get
      have hl : σ.length = e1.length := by have := rf.len; simpa using this
      rw [← hl, app_get] at hu; cases hu
      obtain ⟨o1, o2, _⟩ := rf.out _ a k2
      exact hp _ F' H' e2 rf.fz rf.base rf.new ⟨a, xs, rfl, o2, o1, k1, k3⟩
    | own i =>
      obtain ⟨hr, hv⟩ := hr
      dsimp only at hp
      split at hp
      · rename_i n ds q
        obtain ⟨fp, rf⟩ := hr
        obtain ⟨u, hu, a, xs, rfl, k1, k2, k3⟩ := rf.sl i _ q
        rw [hv] at hu; cases hu
        obtain ⟨o1, o2, _⟩ := rf.out _ a k2
        exact hp _ F' H' e2 rf.fz rf.base rf.new ⟨a, xs, rfl, o2, o1, k1, k3⟩
      · exact hp.elim
theorem set_get {α : Type} {l : List α} {i j : Nat} {x y : α} (h : (l.set i x)[j]? = some y) : (j = i ∧ x = y) ∨ (j ≠ i ∧ l[j]? = some y) := by
  by_cases z : j = i
  · subst z
    have hj : j < l.length := by have := (List.getElem?_eq_some_iff.mp h).1; simpa using this
    rw [List.getElem?_set_self hj] at h; cases h; exact .inl ⟨rfl, rfl⟩
  · rw [List.getElem?_set_ne (Ne.symm z)] at h; exact .inr ⟨z, h⟩
theorem Rel.put {K : PySem.W.Frag} {H0 F0 F H : Hp} {env : Env} {σ : St} {i : Nat} {n : Bool} {d : PyData} {v : V} (r : Rel K H0 F0 env σ F H) (h : Is K H0 n F v d) : Rel K H0 F0 (env.set i (some (.sh n d))) (σ.set i (some v)) F H := by
  refine r.sub (by simp [r.len]) fun j s q => ?_
  rcases set_get q with ⟨hj, hx⟩ | ⟨hj, hx⟩
  · have hs : Sl.sh n d = s := Option.some.inj hx
    subst hs
    have hlt : j < σ.length := by have := (List.getElem?_eq_some_iff.mp q).1; rw [r.len]; simpa using this
    exact .inr ⟨v, n, d, rfl, by rw [hj] at hlt ⊢; exact List.getElem?_set_self hlt, h⟩
  · exact .inl ⟨hx, List.getElem?_set_ne (Ne.symm hj)⟩
theorem Rel.putO {K : PySem.W.Frag} {H0 F0 F H : Hp} {env : Env} {σ : St} {i : Nat} {n : Bool} {ds : List PyData} {v : V} (r : Rel K H0 F0 (env ++ [some (.ow n ds)]) (σ ++ [some v]) F H) : Rel K H0 F0 (env.set i (some (.ow n ds))) (σ.set i (some v)) F H := by
  obtain ⟨fp, r⟩ := r
  have hl : σ.length = env.length := by have := r.len; simpa using this
  obtain ⟨u, hu, h2⟩ := r.sl env.length _ app_get
  rw [← hl, app_get] at hu; cases hu
  refine ⟨fun j a => if j = i then fp env.length a else j < env.length ∧ fp j a, ⟨r.fz, r.base, by simp [hl], fun j s q => ?_, fun j k a h1 h2 => ?_, fun j a h1 => ?_, r.new, r.f0, r.tb⟩⟩
  · rcases set_get q with ⟨hj, hx⟩ | ⟨hj, hx⟩
    · have hs : Sl.ow n ds = s := Option.some.inj hx
      subst hs
      have hlt : j < σ.length := by have := (List.getElem?_eq_some_iff.mp q).1; rw [hl]; simpa using this
      refine ⟨v, by rw [hj] at hlt ⊢; exact List.getElem?_set_self hlt, ?_⟩
      have e : (fun a => if j = i then fp env.length a else j < env.length ∧ fp j a) = fp env.length := by funext a; rw [if_pos hj]
      rw [e]; exact h2
    · obtain ⟨u, g1, g2⟩ := r.sl j s (app_left hx)
      have hlt : j < env.length := (List.getElem?_eq_some_iff.mp hx).1
      have e : (fun a => if j = i then fp env.length a else j < env.length ∧ fp j a) = fp j := by funext a; simp [hj, hlt]
      refine ⟨u, ?_, by rw [e]; exact g2⟩
      rw [List.getElem?_append_left (by omega)] at g1
      rw [List.getElem?_set_ne (Ne.symm hj)]; exact g1
  · by_cases z1 : j = i <;> by_cases z2 : k = i
    · rw [z1, z2]
    · simp only [if_pos z1, if_neg z2] at h1 h2
      have := r.dis _ _ a h1 h2.2
      omega
    · simp only [if_neg z1, if_pos z2] at h1 h2
      have := r.dis _ _ a h2 h1.2
      omega
    · simp only [if_neg z1, if_neg z2] at h1 h2
      exact r.dis _ _ a h1.2 h2.2
  · by_cases z1 : j = i
    · simp only [if_pos z1] at h1
      exact r.out _ a h1
    · simp only [if_neg z1] at h1
      exact r.out _ a h1.2
def put (i : Nat) (p : Env × R) : Rs Env := match p.2 with
  | .sh n d => .ok (p.1.set i (some (.sh n d)))
  | .nw n ds => .ok (p.1.set i (some (.ow n ds)))
  | .own j => match p.1[j]? with
    | some (some s) => .ok ((p.1.set j (some (.sh s.flag s.data))).set i (some (.sh s.flag s.data)))
    | _ => .bad
theorem put_ok {K : PySem.W.Frag} {H0 F0 F H : Hp} {σ : St} {i : Nat} {p : Env × R} {v : V} {e : Env} (h : RelR K H0 F0 p.1 σ F H v p.2) (q : put i p = .ok e) : ∃ F', Same F F' ∧ Rel K H0 F0 e (σ.set i (some v)) F' H := by
  obtain ⟨e1, k⟩ := p
  cases k with
  | sh n d =>
    cases q
    exact ⟨F, Same.refl F, h.1.put h.2⟩
  | nw n ds =>
    cases q
    exact ⟨F, Same.refl F, Rel.putO h⟩
  | own j =>
    obtain ⟨h, hv⟩ := h
    unfold put at q
    dsimp only at q
    split at q
    · rename_i s hs
      cases q
      obtain ⟨F2, u, e2, r2, hu, hi⟩ := h.share hs
      rw [hv] at hu; cases hu
      exact ⟨F2, e2, r2.put hi⟩
    · cases q
def fSet (i : Nat) (f : FE) : FS := fun env => (f env).bind fun p => (put i p).bind fun e => .ok (.nx e)
theorem put_post {i : Nat} {p : Env × R} {P : Out → Prop} {E : Env → Exn → Prop} (h : ((put i p).bind fun e => .ok (.nx e)).post P E) : ∃ e, put i p = .ok e ∧ P (.nx e) := by
  cases z : put i p with
  | bad => rw [z] at h; exact h.elim
  | ok e => rw [z] at h; exact ⟨e, rfl, h⟩
  | ex e x =>
    unfold put at z
    split at z
    · cases z
    · cases z
    · split at z <;> cases z
  | ch m f =>
    unfold put at z
    split at z
    · cases z
    · cases z
    · split at z <;> cases z
section
variable {X : Cx} {W : WX} {e : Expr} {f : FE} {pos pos' : PySem.Pos} {x : Str}
theorem s_set (i : Nat) (hN : X.N.Nodup) (he : DE X W e f) (hi : X.N[i]? = some x := by rfl) (hx : L2.Loc X.env.scope x := by first | exact Or.inl rfl | exact Or.inr rfl) (hs : swapsWith e (some (.Name x pos')) pos.line X.env = pure false := by rfl)
    (hf : X.fn x = true ∨ X.env.scope.names.lookup x = some .local := by first | exact .inl rfl | exact .inr rfl) : DS X W (.Assign [.Name x pos'] e pos) (fSet i f) :=
  ps_le (ps_set hN hi hx he hs hf) fun D σ H q => via (te := tC .non) q fun H0 F0 F env p r hp v F' H' hr _ e2 => by
    obtain ⟨e1, q1, q2⟩ := put_post hp
    obtain ⟨F2, e3, r2⟩ := put_ok hr q1
    exact q2 _ F2 H' r2 (e2.trans e3)
abbrev FG := Dv → Env → Rs Env
def But (is : List Nat) (σ σ' : St) : Prop := σ'.length = σ.length ∧ ∀ i, i ∉ is → σ'[i]? = σ[i]?
theorem But.refl (is : List Nat) (σ : St) : But is σ σ := ⟨rfl, fun _ _ => rfl⟩
theorem But.trans {is js : List Nat} {σ σ1 σ2 : St} (a : But is σ σ1) (b : But js σ1 σ2) : But (is ++ js) σ σ2 := ⟨b.1.trans a.1, fun i h => (b.2 i fun z => h (List.mem_append_right _ z)).trans (a.2 i fun z => h (List.mem_append_left _ z))⟩
def tG (K : PySem.W.Frag) (is : List Nat) (g : FG) : TG := fun v σ H Q => ∃ H0 F0 F env p, Rel K H0 F0 env σ F H ∧ Is K H0 p.1 F v p.2 ∧ (g p env).post (fun e => ∀ σ', Rel K H0 F0 e σ' F H → But is σ σ' → Q σ' H) (fun _ _ => False)
abbrev DG (X : Cx) (tg : Expr) (is : List Nat) (g : FG) : Prop := PG X tg (tG X.K is g)
abbrev FGs := Bool → List PyData → Env → Rs Env
def tGs (K : PySem.W.Frag) (is : List Nat) (g : FGs) : TGs := fun vs σ H Q => ∃ H0 F0 F env n ds, Rel K H0 F0 env σ F H ∧ IsA K H0 n F vs ds ∧ (g n ds env).post (fun e => ∀ σ', Rel K H0 F0 e σ' F H → But is σ σ' → Q σ' H) (fun _ _ => False)
abbrev DGs (X : Cx) (ts : List Expr) (is : List Nat) (g : FGs) : Prop := PGs X ts (tGs X.K is g)
theorem pg_le {tg : Expr} {t t' : TG} (h : PG X tg t) (l : ∀ v σ H Q, t' v σ H Q → t v σ H Q) : PG X tg t' := ⟨fun pins s σ H v u Q I r q => h.run pins s σ H v u Q I r (l _ _ _ _ q)⟩
theorem pgs_le {tg : List Expr} {t t' : TGs} (h : PGs X tg t) (l : ∀ v σ H Q, t' v σ H Q → t v σ H Q) : PGs X tg t' := ⟨fun pins s σ H v u Q I r q => h.run pins s σ H v u Q I r (l _ _ _ _ q)⟩
def gN (i : Nat) : FG := fun p env => .ok (env.set i (some (.sh (p.1 || atom p.2) p.2)))
theorem g_name (i : Nat) (hN : X.N.Nodup) (hi : X.N[i]? = some x := by rfl) (hx : L2.Loc X.env.scope x := by first | exact Or.inl rfl | exact Or.inr rfl) (hf : X.fn x = true ∨ X.env.scope.names.lookup x = some .local := by first | exact .inl rfl | exact .inr rfl) : DG X (.Name x pos) [i] (gN i) :=
  pg_le (pg_name hN hi hx hf) fun v σ H Q ⟨H0, F0, F, env, p, r, hv, q⟩ => q _ (r.put (hv.orAtom (Same.refl F))) ⟨by simp, fun j hj => List.getElem?_set_ne fun z => hj (by simp [z])⟩
def gsN : FGs := fun _ ds env => match ds with
  | [] => .ok env
  | _ => .bad
def gsC (g : FG) (h : FGs) : FGs := fun n ds env => match ds with
  | d :: ds => (g (n, d) env).bind fun e => h n ds e
  | [] => .bad
theorem gs_nil : DGs X [] [] gsN := pgs_le pgs_nil fun vs σ H Q ⟨H0, F0, F, env, n, ds, r, hv, q⟩ => by
  cases hv with
  | nil => exact ⟨rfl, q σ r (But.refl _ _)⟩
  | cons _ _ => exact q.elim
theorem gs_cons {es : List Expr} {is js : List Nat} {g : FG} {h : FGs} (h1 : DG X e is g) (h2 : DGs X es js h) (hs : (assignEach (e :: es) X.env).map (·.2) = assign e X.env :: (assignEach es X.env).map (·.2) := by rfl) : DGs X (e :: es) (is ++ js) (gsC g h) :=
  pgs_le (pgs_cons h1 h2 hs) fun vs σ H Q ⟨H0, F0, F, env, n, ds, r, hv, q⟩ => by
    cases hv with
    | nil => exact q.elim
    | @cons v vs d ds a t =>
      refine ⟨v, vs, rfl, H0, F0, F, env, (n, d), r, a, ?_⟩
      unfold gsC at q
      exact Rs.post_mono (Rs.post_bind.mp q) (fun e1 he σ' r' b => ⟨H0, F0, F, e1, n, ds, r', t, Rs.post_mono he (fun _ y σ2 r2 c => y σ2 r2 (b.trans c)) fun _ _ y => y⟩) fun _ _ z => z
def gT (n : Nat) (g : FGs) : FG := fun p env => match p.2 with
  | .tuple ds => grd (decide (ds.length = n)) (g p.1 ds env)
  | _ => .bad
theorem g_tup {es : List Expr} {is : List Nat} {k : Nat} {n : Nat} {g : FGs} (hc : X.calm = true) (h : DGs X es is g) (h1 : (assignEach es X.env).length = n := by rfl)
    (h2 : (assignEach es X.env).findIdx? (fun x => x.1) = none := by rfl) : DG X (.Tuple es k pos) is (gT n g) :=
  pg_le (pg_tup hc h h1 h2) fun v σ H Q ⟨H0, F0, F, env, p, r, hv, q⟩ => by
    obtain ⟨m, d⟩ := p
    unfold gT at q
    dsimp only at q
    split at q
    · rename_i ds
      obtain ⟨hz, q⟩ := grd_post q
      cases hv with
      | tup hs ha => exact ⟨_, _, rfl, (hs.to r.fz).sq, by rw [ha.length]; exact of_decide_eq_true hz, H0, F0, F, env, m, ds, r, ha, q⟩
    · exact q.elim
def fAsg (g : FG) (f : FV) : FS := fun env => (f env).bind fun p => (g p.2 p.1).bind fun e => .ok (.nx e)
theorem s_asg {tg : Expr} {is : List Nat} {g : FG} (hg : ∀ p e, Nx (g p e)) (he : DE X W e f) (h : DG X tg is g) (h1 : swapsWithSole [tg] e pos.line X.env = pure false := by rfl) (h2 : swappedStores [tg] e X.env = pure none := by rfl)
    (h3 : (assignEach [tg] X.env).map (fun x => x.2) = [assign tg X.env] := by rfl) : DS X W (.Assign [tg] e pos) (fAsg g (st f)) :=
  ps_le (ps_asg he.d h h1 h2 h3) fun D σ H ⟨H0, F0, F, env, r, q⟩ => by
    refine ⟨H0, F0, F, env, r, ?_⟩
    unfold fAsg at q
    refine Rs.post_mono (Rs.post_bind.mp q) (fun p hp v F' H' r' hv e1 e2 => ?_) fun _ _ x => x.p (Same.refl F)
    refine ⟨H0, F0, F', p.1, p.2, r', hv, ?_⟩
    have hp := Rs.post_bind.mp hp
    cases z : g p.2 p.1 with
    | bad => rw [z] at hp; exact hp.elim
    | ok e1 => rw [z] at hp; exact fun σ' r2 _ => hp σ' F' H' r2 e2
    | ex e1 x => have y := hg p.2 p.1; rw [z] at y; exact y.elim
    | ch m f => have y := hg p.2 p.1; rw [z] at y; exact y.elim
theorem gN_no {i : Nat} : ∀ p e, Nx (gN i p e) := fun p e => by
  unfold gN; (repeat' (first | exact trivial | (refine grd_no ?_) | split))
theorem gsN_no : ∀ n ds e, Nx (gsN n ds e) := fun n ds e => by
  unfold gsN; (repeat' (first | exact trivial | (refine grd_no ?_) | split))
theorem gsC_no {g : FG} {h : FGs} (hg : ∀ p e, Nx (g p e)) (hh : ∀ n ds e, Nx (h n ds e)) : ∀ n ds e, Nx (gsC g h n ds e) := fun n ds e => by
  unfold gsC
  split
  · rename_i d ds
    cases z : g (n, d) e with
    | bad => exact trivial
    | ok e1 => exact hh _ _ _
    | ex e1 x => have y := hg (n, d) e; rw [z] at y; exact y.elim
    | ch m f => have y := hg (n, d) e; rw [z] at y; exact y.elim
  · exact trivial
theorem gT_no {n : Nat} {g : FGs} (hh : ∀ n ds e, Nx (g n ds e)) : ∀ p e, Nx (gT n g p e) := fun p e => by
  unfold gT
  split
  · exact grd_no (hh _ _ _)
  · exact trivial
def fApp (i : Nat) (f : FV) : FS := fun env => match env[i]? with
  | some (some (.ow _ _)) => (f env).bind fun p => match p.1[i]? with
    | some (some (.ow n ds)) => grd (decide (ds.length < 1000000)) (.ok (.nx (p.1.set i (some (.ow (n && p.2.1) (ds ++ [p.2.2]))))))
    | _ => .bad
  | _ => .bad
theorem IsA.le1 {K : PySem.W.Frag} {H0 F : Hp} {n m : Bool} {xs : List V} {ds : List PyData} (h : IsA K H0 n F xs ds) : IsA K H0 (n && m) F xs ds := h.le (le_and (Same.refl F))
theorem Is.le2 {K : PySem.W.Frag} {H0 F : Hp} {n m : Bool} {x : V} {d : PyData} (h : Is K H0 m F x d) : Is K H0 (n && m) F x d := h.le (le_and' (Same.refl F))
theorem million {n : Nat} (h : n < 1000000) : n < sizeLine := Nat.lt_of_lt_of_le h (by decide)
theorem s_app (i : Nat) {apos cpos npos : PySem.Pos} (he : DE X W e f) (hi : X.N[i]? = some x := by rfl) (hv : Vis X.env.scope x := by first | exact Or.inl rfl | exact Or.inr (Or.inl rfl) | exact Or.inr (Or.inr rfl)) (hd : (x == ("__debug__" : Str)) = false := by decide) (hcd : (x == ("__classdict__" : Str)) = false := by decide)
    (hsw : swapsWith (.Call (.Attribute (.Name x npos) "append" apos) [e] [] cpos) none pos.line X.env = pure false := by rfl)
    (h1 : attributeBase (.Name x npos) "append" X.env (eval (.Name x npos) X.env) = eval (.Name x npos) X.env := by rfl)
    (h2 : (((backTo cpos (starEach [e] X.env)).all fun x => !x.1) && (backToKw cpos (keywordEach [] X.env)).all (fun x => x.1.isSome) && decide ([e].length + ([] : List Keyword).length + (if ([] : List Keyword).isEmpty = true then 0 else 1) < 30)) = true := by rfl)
    (h3 : (apos.endLine == cpos.line) = true := by rfl) (h4 : starEach [e] X.env = (false, eval e X.env) :: starEach [] X.env := by rfl) (h5 : (backTo cpos (starEach [] X.env)).any (fun x => x.1) = false := by rfl) :
    DS X W (.Expr (.Call (.Attribute (.Name x npos) "append" apos) [e] [] cpos) pos) (fApp i (st f)) :=
  ps_le (ps_expr (pe_bm PySem.F.plainAttrs_list PySem.F.slot_list_append PySem.F.type_list_append mt_append (pe_var hi hv hd hcd) (pa_cons he.d pa_nil h4) h1 h2 h3 h4 h5) hsw) fun D σ H ⟨H0, F0, F, env, r, q⟩ => by
    unfold fApp at q
    split at q
    · rename_i n0 ds0 h0
      obtain ⟨fp, rf⟩ := id r
      obtain ⟨v, hv, a, xs, rfl, k1, k2, k3⟩ := rf.sl i _ h0
      refine ⟨.ref a, hv, .inl ⟨rfl, xs, .inl (.inl k1)⟩, H0, F0, F, env, r, ?_⟩
      refine Rs.post_mono (Rs.post_bind.mp q) (fun p hp y F1 H1 r1 iy e1 e2 => ?_) fun _ _ x => x.p (Same.refl F)
      split at hp
      · rename_i n ds h1
        obtain ⟨hz, hp⟩ := grd_post hp
        have hz := of_decide_eq_true hz
        obtain ⟨fp1, rf1⟩ := id r1
        obtain ⟨v1, hv1, b, xs1, rfl, g1, g2, g3⟩ := rf1.sl i _ h1
        rw [hv] at hv1; cases hv1
        refine ⟨a, xs1, y, rfl, rfl, g1, million (by rw [g3.length]; exact hz), ?_⟩
        exact hp σ F1 _ (r1.mut (m := n && p.2.1) h1 hv (g3.le1.append (.cons (Is.le2 iy) .nil))).1 e2
      · exact hp.elim
    · exact q.elim
def fPutIx (i : Nat) (fi : FV) (f : FV) : FS := fun env => (f env).bind fun p => match p.1[i]? with
  | some (some (.ow _ _)) => (fi p.1).bind fun q => match q.1[i]?, q.2.2 with
    | some (some (.ow n ds)), .int k => match ixN ds.length k with
      | some j => .ok (.nx (q.1.set i (some (.ow (n && p.2.1) (ds.set j p.2.2)))))
      | none => .bad
    | _, _ => .bad
  | _ => .bad
end
end
theorem s_putIx {X : Cx} {W : WX} {e : Expr} {f : FE} {pos : PySem.Pos} {x : Str} (i : Nat) {ei : Expr} {fi : FE} {npos spos : PySem.Pos} (hei : DE X W ei fi) (he : DE X W e f) (hi : X.N[i]? = some x := by rfl) (hv : Vis X.env.scope x := by first | exact Or.inl rfl | exact Or.inr (Or.inl rfl) | exact Or.inr (Or.inr rfl)) (hd : (x == ("__debug__" : Str)) = false := by decide) (hcd : (x == ("__classdict__" : Str)) = false := by decide)
    (h0 : ∀ v, assign (.Subscript (.Name x npos) ei spos) X.env v = (do
      let ov ← holding [v] (eval (.Name x npos) X.env)
      let iv ← holding [v, ov] (eval ei X.env)
      standAt spos
      holding [v, ov, iv] (setItem ov iv v)
      release [v, ov, iv] []) := by intro _; rfl)
    (h1 : swapsWithSole [.Subscript (.Name x npos) ei spos] e pos.line X.env = pure false := by rfl) (h2 : swappedStores [.Subscript (.Name x npos) ei spos] e X.env = pure none := by rfl)
    (h3 : (assignEach [.Subscript (.Name x npos) ei spos] X.env).map (fun x => x.2) = [assign (.Subscript (.Name x npos) ei spos) X.env] := by rfl) :
    DS X W (.Assign [.Subscript (.Name x npos) ei spos] e pos) (fPutIx i (rd fi) (st f)) :=
  ps_le (ps_asg he.d (pg_sub (pe_var hi hv hd hcd) hei.v set_list h0) h1 h2 h3) fun D σ H ⟨H0, F0, F, env, r, q⟩ => by
    refine ⟨H0, F0, F, env, r, ?_⟩
    unfold fPutIx at q
    refine Rs.post_mono (Rs.post_bind.mp q) (fun p hp y F1 H1 r1 iy e1 e2 => ?_) fun _ _ x => x.p (Same.refl F)
    split at hp
    · rename_i n0 ds0 h4
      obtain ⟨fp1, rf1⟩ := id r1
      obtain ⟨v1, hv1, b, xs1, rfl, g1, g2, g3⟩ := rf1.sl i _ h4
      refine ⟨.ref b, hv1, H0, F0, F1, p.1, r1, ?_⟩
      refine Rs.post_mono (Rs.post_bind.mp hp) (fun q hq z F2 H2 r2 iz e3 e4 => ?_) fun _ _ x => x.p e2
      split at hq
      · rename_i n ds k h5 h6
        obtain ⟨fp2, rf2⟩ := id r2
        obtain ⟨v2, hv2, c, xs2, rfl, k1, k2, k3⟩ := rf2.sl i _ h5
        rw [hv1] at hv2; cases hv2
        have hz : z = .int k := by
          rcases iz with iz | ⟨_, _, _, _, iz, _⟩
          · rw [h6] at iz; cases iz; rfl
          · rw [h6] at iz; cases iz
        split at hq
        · rename_i j hj
          refine ⟨b, xs2, k, j, rfl, hz, k1, by rw [k3.length]; exact hj, ?_⟩
          exact hq σ F2 _ (r2.mut (m := n && p.2.1) h5 hv1 (k3.le1.set (Is.le2 (iy.to e4)) j)).1 (e2.trans e4)
        · exact hq.elim
      · exact hq.elim
    · exact hp.elim
def Good (K : PySem.W.Frag) (H0 F : Hp) (J : It) (ps : List Dv) : Prop := ∀ i F' H', Same F F' → Sg F' H' →
  (∀ p, ps[i]? = some p → J.go i H' ∧ ∀ x H3, J.yld i H' x H3 → ∃ F3, Ext F' H' F3 H3 ∧ Is K H0 p.1 F3 x p.2) ∧ (ps.length ≤ i → J.stop i H')
def tI (K : PySem.W.Frag) (mg : Str → Option Value) (W : WX) (f : FA) : TI := fun σ H Q => ∃ H0 F0 F env, Rel K H0 F0 env σ F H ∧
  (f env).post (fun p => ∀ J F' H', Rel K H0 F0 p.1 σ F' H' → Good K H0 F' J p.2 → Sm H H' → Same F F' → Q J H') (ExP K mg W H0 F0 F H σ)
abbrev DI (X : Cx) (W : WX) (tg it : Expr) (f : FA) : Prop := PI X tg it (tI X.K X.mg W f)
theorem pi_le {X : Cx} {tg it : Expr} {t t' : TI} (h : PI X tg it t) (l : ∀ σ H Q, t' σ H Q → t σ H Q) : PI X tg it t' := ⟨fun pins s σ H Q I q => h.run pins s σ H Q I (l σ H Q q)⟩
def iSeq (K : PySem.W.Frag) (tl : TE) : TI := fun σ H R => tl σ H fun x H1 => (∃ a, x = .ref a ∧ (∃ xs, SqL K H1 a xs) ∧ R (Itl K a) H1) ∨ (∃ a, x = .ref a ∧ (∃ xs, SqT K H1 a xs) ∧ R (Itt K a) H1) ∨ (∃ y, x = .str y ∧ R (Its y) H1) ∨
  (∃ d o xs, x = .ref d ∧ H1 d = some (.frz o (dN d xs)) ∧ R (ItkN d o xs) H1) ∨ ∃ d o kvs, x = .ref d ∧ H1 d = some (.frz o (.dK kvs)) ∧ R (Itk d o kvs) H1
theorem pi_seq {X : Cx} {tg l : Expr} {tl : TE} (hl : PE X l tl) : PI X tg l (iSeq X.K tl) := by
  refine ⟨fun pins s σ H R I h => ?_⟩
  refine thn (hl.run pins s σ H _ I h) fun v s1 ⟨x, H1, I1, r1, q1⟩ => ?_
  rcases q1 with ⟨a, e, ⟨xs, hq⟩, q⟩ | ⟨a, e, ⟨xs, hq⟩, q⟩ | ⟨y, ex, q⟩ | ⟨d, o, xs, ex, hd, q⟩ | ⟨d, o, kvs, ex, hd, q⟩
  · subst e
    cases r1
    obtain ⟨its, rv, p, hz⟩ := I1.list hq
    refine wpAny_pyIter_list p.isList ?_
    refine ⟨s1.heap.objs.size, [s1.heap.objs.size], _, _, H1, rfl, I1.kept (t' := s1.toks) fun b o e => Heap.get?_push_of_some _ e, turn_list a _, ⟨_, Heap.get?_push_size _ rfl, rfl, rfl⟩, fun b hb => ?_, q⟩
    have e : b = s1.heap.objs.size := by simpa using hb
    subst e
    exact I1.fpOk (Nat.le_refl _) (I1.hok.fresh (Nat.le_refl _))
  · subst e
    cases r1
    obtain ⟨its, rv, p, hz⟩ := I1.tuple hq
    refine wpAny_pyIter_tuple (show s1.heap.IsTuple a its.toArray from p) ?_
    refine ⟨s1.heap.objs.size, [s1.heap.objs.size], _, _, H1, rfl, I1.kept (t' := s1.toks) fun b o e => Heap.get?_push_of_some _ e, turn_tuple a _, ⟨_, Heap.get?_push_size _ rfl, rfl, rfl⟩, fun b hb => ?_, q⟩
    have e : b = s1.heap.objs.size := by simpa using hb
    subst e
    exact I1.fpOk (Nat.le_refl _) (I1.hok.fresh (Nat.le_refl _))
  · subst ex
    obtain ⟨t, rfl⟩ := r1
    cases ha : y.cps.all (· < 128)
    · exact wpAny_pyIter_wide ha (pi_one (tk := s1.toks) I1 _ (turn_str _ y t "str_iterator" (.inr rfl)) ⟨_, Heap.get?_push_size _ rfl, rfl, rfl⟩ q)
    · exact wpAny_pyIter_ascii ha (pi_one (tk := s1.toks) I1 _ (turn_str _ y t "str_ascii_iterator" (.inl rfl)) ⟨_, Heap.get?_push_size _ rfl, rfl, rfl⟩ q)
  · subst ex
    cases r1
    obtain ⟨lo, hgd, hx, es, ep, hdt, hsz, _⟩ := frzN I1 hd
    refine iter_keys lo hgd hx hdt (pi_one (tk := s1.toks) I1 _ (turn_keysN _ hdt) ⟨_, Heap.get?_push_size _ rfl, rfl, ?_⟩ q)
    rw [hsz]; rfl
  · subst ex
    cases r1
    obtain ⟨lo, hgd, hx, es, ep, vs, hdt, hsz, _⟩ := I1.frzK hd
    refine iter_keys lo hgd hx hdt (pi_one (tk := s1.toks) I1 _ (turn_keys _ hdt) ⟨_, Heap.get?_push_size _ rfl, rfl, ?_⟩ q)
    rw [hsz]; rfl
def dictKeys : PyData → Option (List PyData)
  | .dict ((.int 6, .none) :: q) => some (q.map (·.1))
  | .dict ((.int 4, .none) :: q) => some (q.map (·.1))
  | _ => none
def fIt (f : FV) : FA := fun env => (f env).bind fun p => match p.2.2 with
  | .list ds => .ok (p.1, ds.map fun d => (p.2.1, d))
  | .tuple ds => .ok (p.1, ds.map fun d => (p.2.1, d))
  | .str x => .ok (p.1, x.cps.toList.map fun c => (true, .str ⟨#[c]⟩))
  | .dict q => (match dictKeys (.dict q) with
    | some ks => .ok (p.1, ks.map fun d => (p.2.1, d))
    | none => .bad)
  | _ => .bad
section
variable {K : PySem.W.Frag} {H0 F H : Hp}
theorem good_list {a : Addr} {xs : List V} {ds : List PyData} {n : Bool} (h : SqL K F a xs) (hi : IsA K H0 n F xs ds) : Good K H0 F (Itl K a) (ds.map fun d => (n, d)) := fun i F' H' e1 e2 => by
  have hs : SqL K H' a xs := (Sg.pre e1 e2).seq h
  refine ⟨fun p hp => ?_, fun hl => ⟨xs, hs, by rw [hi.length]; simpa using hl⟩⟩
  rw [List.getElem?_map] at hp
  cases q : ds[i]? with
  | none => rw [q] at hp; cases hp
  | some d =>
    rw [q] at hp; cases hp
    obtain ⟨v, hv, hd⟩ := hi.get q
    refine ⟨⟨xs, v, hs, hv⟩, fun x H3 hy => ?_⟩
    obtain ⟨rfl, hx⟩ := hy
    have := hx xs hs
    rw [hv] at this; cases this
    exact ⟨F', Ext.refl e2, hd.to e1⟩
theorem good_tup {a : Addr} {xs : List V} {ds : List PyData} {n : Bool} (h : SqT K F a xs) (hi : IsA K H0 n F xs ds) : Good K H0 F (Itt K a) (ds.map fun d => (n, d)) := fun i F' H' e1 e2 => by
  have hs : SqT K H' a xs := same_t (Sg.pre e1 e2) h
  refine ⟨fun p hp => ?_, fun hl => ⟨xs, hs, by rw [hi.length]; simpa using hl⟩⟩
  rw [List.getElem?_map] at hp
  cases q : ds[i]? with
  | none => rw [q] at hp; cases hp
  | some d =>
    rw [q] at hp; cases hp
    obtain ⟨v, hv, hd⟩ := hi.get q
    refine ⟨⟨xs, v, hs, hv⟩, fun x H3 hy => ?_⟩
    obtain ⟨rfl, hx⟩ := hy
    have := hx xs hs
    rw [hv] at this; cases this
    exact ⟨F', Ext.refl e2, hd.to e1⟩
theorem good_str {x : Str} : Good K H0 F (Its x) (x.cps.toList.map fun c => (true, .str ⟨#[c]⟩)) := fun i F' H' e1 e2 => by
  refine ⟨fun p hp => ?_, fun hl => by simpa [Its] using hl⟩
  rw [List.getElem?_map] at hp
  cases q : x.cps.toList[i]? with
  | none => rw [q] at hp; cases hp
  | some c =>
    rw [q] at hp; cases hp
    have hi : i < x.cps.toList.length := (List.getElem?_eq_some_iff.mp q).1
    refine ⟨by simpa [Its] using hi, fun y H3 hy => ?_⟩
    obtain ⟨rfl, c', hc, rfl⟩ := hy
    rw [← Array.getElem?_toList, q] at hc; cases hc
    exact ⟨F', Ext.refl e2, .str _⟩
theorem good_keysN {d : Addr} {o : Obj} {xs : List NX} {ks : List PyData} {n : Bool} (h : F d = some (.frz o (dN d xs))) (hi : IsA K H0 n F (xs.map fun x => V.ref x.2.1) ks) : Good K H0 F (ItkN d o xs) (ks.map fun d => (n, d)) := fun i F' H' e1 e2 => by
  have hs := e2 _ _ (e1 _ _ h)
  refine ⟨fun p hp => ?_, fun hl => ⟨hs, by have := hi.length; simp at this hl; omega⟩⟩
  rw [List.getElem?_map] at hp
  cases q : ks[i]? with
  | none => rw [q] at hp; cases hp
  | some d =>
    rw [q] at hp; cases hp
    obtain ⟨v, hv, hd⟩ := hi.get q
    rw [List.getElem?_map] at hv
    cases w : xs[i]? with
    | none => rw [w] at hv; cases hv
    | some x =>
      rw [w] at hv
      cases hv
      refine ⟨⟨hs, (List.getElem?_eq_some_iff.mp w).1⟩, fun y H3 hy => ?_⟩
      obtain ⟨rfl, x2, hx, rfl⟩ := hy
      rw [w] at hx; cases hx
      exact ⟨F', Ext.refl e2, hd.to e1⟩
theorem good_keysK {d : Addr} {o : Obj} {kvs : List (Key × V)} {n : Bool} (h : F d = some (.frz o (.dK kvs))) : Good K H0 F (Itk d o kvs) ((kvs.map fun p => kD p.1).map fun d => (n, d)) := fun i F' H' e1 e2 => by
  have hs := e2 _ _ (e1 _ _ h)
  refine ⟨fun p hp => ?_, fun hl => ⟨hs, by simpa using hl⟩⟩
  rw [List.getElem?_map, List.getElem?_map] at hp
  cases q : kvs[i]? with
  | none => rw [q] at hp; cases hp
  | some kv =>
    rw [q] at hp; cases hp
    refine ⟨⟨hs, (List.getElem?_eq_some_iff.mp q).1⟩, fun y H3 hy => ?_⟩
    obtain ⟨rfl, k, v, hx, rfl⟩ := hy
    rw [q] at hx; cases hx
    exact ⟨F', Ext.refl e2, by cases k <;> constructor⟩
theorem good_range {lo : Int} {n : Nat} : Good K H0 F (Itr lo n) ((List.range n).map fun (i : Nat) => (true, .int (lo + i))) := fun i F' H' e1 e2 => by
  refine ⟨fun p hp => ?_, fun hl => by simpa [Itr] using hl⟩
  rw [List.getElem?_map] at hp
  by_cases hi : i < n
  · rw [List.getElem?_range hi] at hp; cases hp
    refine ⟨hi, fun y H3 hy => ?_⟩
    obtain ⟨rfl, rfl⟩ := hy
    exact ⟨F', Ext.refl e2, .int _⟩
  · rw [List.getElem?_eq_none (by simpa using hi)] at hp; cases hp
end
section
variable {X : Cx} {W : WX} {e a b : Expr} {f fa fb : FE} {tg : Expr} {p pos : PySem.Pos}
theorem i_seq (h : DE X W e f) : DI X W tg e (fIt (st f)) := pi_le (pi_seq h.d) fun σ H Q ⟨H0, F0, F, env, r, q⟩ => by
  refine ⟨H0, F0, F, env, r, ?_⟩
  unfold fIt at q
  refine Rs.post_mono (Rs.post_bind.mp q) (fun p hp v F' H' r' hv e1 e2 => ?_) fun _ _ x => x
  obtain ⟨e', n, d⟩ := p
  dsimp only at hp hv
  split at hp
  · rename_i ds
    cases hv with
    | lst hs _ ha => exact .inl ⟨_, rfl, ⟨_, (r'.fz).seq hs⟩, hp _ F' H' r' (good_list hs ha) e1 e2⟩
  · rename_i ds
    cases hv with
    | tup hs ha => exact .inr (.inl ⟨_, rfl, ⟨_, (hs.to r'.fz).sq⟩, hp _ F' H' r' (good_tup hs.sq ha) e1 e2⟩)
  · cases hv
    exact .inr (.inr (.inl ⟨_, rfl, hp _ F' H' r' good_str e1 e2⟩))
  · rename_i dd
    split at hp
    · rename_i ks hk
      unfold dictKeys at hk
      split at hk
      · rename_i q2 hq
        cases hk
        cases hq
        obtain ⟨a, o, xs, rfl, h1, h2⟩ := is_dul hv
        exact .inr (.inr (.inr (.inl ⟨a, o, xs, rfl, r'.fz _ _ h1, hp _ F' H' r' (good_keysN h1 h2.keys) e1 e2⟩)))
      · rename_i q2 hq
        cases hk
        cases hq
        obtain ⟨a, o, kvs, rfl, h1, h2, h3⟩ := is_kl hv
        rw [h3] at hp
        exact .inr (.inr (.inr (.inr ⟨a, o, kvs, rfl, r'.fz _ _ h1, hp _ F' H' r' (good_keysK h1) e1 e2⟩)))
      · cases hk
    · exact hp.elim
  · exact hp.elim
def small (i : Int) : Bool := decide (-(2 ^ 62) ≤ i) && decide (i < 2 ^ 62)
def fRg1 (f : FA) : FA := fun env => (f env).bind fun p => match p.2 with
  | [(_, .int j)] => grd (small j) (.ok (p.1, (List.range j.toNat).map fun (i : Nat) => (true, .int (0 + i))))
  | _ => .bad
def fRg2 (f : FA) : FA := fun env => (f env).bind fun p => match p.2 with
  | [(_, .int i), (_, .int j)] => grd (small i && small j) (.ok (p.1, (List.range (j - i).toNat).map fun (k : Nat) => (true, .int (i + k))))
  | _ => .bad
theorem vw_int {K : PySem.W.Frag} {H0 F H : Hp} {v : V} {n : Bool} {i : Int} (h : Vw K H0 F H v (n, .int i)) : v = .int i := by
  rcases h with h | ⟨_, _, _, _, h, _⟩
  · cases h; rfl
  · cases h
theorem small_iff {i : Int} (h : small i = true) : -(2 ^ 62) ≤ i ∧ i < 2 ^ 62 := by
  unfold small at h
  rw [Bool.and_eq_true, decide_eq_true_iff, decide_eq_true_iff] at h
  exact h
theorem i_range1 {g : FA} (hg : Gl X "range") (hm : X.mg "range" = none) (h : DAV X W [a] g) (hs : starEach [a] X.env = [(false, eval a X.env)] := by rfl) : DI X W tg (.Call (.Name "range" p) [a] [] pos) (fRg1 g) :=
  pi_le (pi_range1 hg hm h hs) fun σ H Q ⟨H0, F0, F, env, r, q⟩ => by
    refine ⟨H0, F0, F, env, r, ?_⟩
    unfold fRg1 at q
    refine Rs.post_mono (Rs.post_bind.mp q) (fun p hp vs F' H' r' hv e1 e2 => ?_) fun _ _ x => x
    obtain ⟨e', ps⟩ := p
    dsimp only at hp hv
    split at hp
    · rename_i n j
      obtain ⟨hz, hp⟩ := grd_post hp
      obtain ⟨z1, z2⟩ := small_iff hz
      cases hv with
      | cons h1 h2 =>
        cases h2
        rw [vw_int h1]
        exact ⟨j, rfl, z1, z2, hp _ F' H' r' good_range e1 e2⟩
    · exact hp.elim
theorem i_range2 {g : FA} (hg : Gl X "range") (hm : X.mg "range" = none) (h : DAV X W [a, b] g) (hs : starEach [a, b] X.env = [(false, eval a X.env), (false, eval b X.env)] := by rfl) (hs2 : starEach [b] X.env = [(false, eval b X.env)] := by rfl) : DI X W tg (.Call (.Name "range" p) [a, b] [] pos) (fRg2 g) :=
  pi_le (pi_range2 hg hm h hs hs2) fun σ H Q ⟨H0, F0, F, env, r, q⟩ => by
    refine ⟨H0, F0, F, env, r, ?_⟩
    unfold fRg2 at q
    refine Rs.post_mono (Rs.post_bind.mp q) (fun p hp vs F' H' r' hv e1 e2 => ?_) fun _ _ x => x
    obtain ⟨e', ps⟩ := p
    dsimp only at hp hv
    split at hp
    · rename_i n i m j
      obtain ⟨hz, hp⟩ := grd_post hp
      obtain ⟨y1, y2⟩ := Bool.and_eq_true_iff.mp hz
      obtain ⟨z1, z2⟩ := small_iff y1
      obtain ⟨z3, z4⟩ := small_iff y2
      cases hv with
      | cons h1 h2 =>
        cases h2 with
        | cons h2 h3 =>
          cases h3
          rw [vw_int h1, vw_int h2]
          exact ⟨i, j, rfl, ⟨z1, z2, z3, z4⟩, hp _ F' H' r' good_range e1 e2⟩
    · exact hp.elim
def fLoop (g : FG) (body : FS) : List Dv → Env → Rs Out
  | [], e => .ok (.nx e)
  | x :: xs, e => (g x e).bind fun e1 => (body e1).bind fun o => match o with
    | .nx e2 => fLoop g body xs e2
    | .ct e2 => fLoop g body xs e2
    | .bk e2 => .ok (.nx e2)
    | .rt r => .ok (.rt r)
def fFor (it : FA) (g : FG) (body : FS) : FS := fun env => (it env).bind fun p => fLoop g body p.2 p.1
theorem bind_noex {α β : Type} {r : Rs α} {k : α → Rs β} {P : β → Prop} {E : Env → Exn → Prop} (hr : Nx r) (h : (r.bind k).post P E) : r.post (fun a => (k a).post P E) fun _ _ => False := by
  cases r with
  | bad => exact h
  | ok a => exact h
  | ex e x => exact hr.elim
  | ch m f => exact hr.elim
theorem s_for {it : Expr} {is : List Nat} {fi : FA} {g : FG} {body : FS} {bs : List Stmt} (hp : PassesOwn (model X.prog X.w) X.A X.env X.xe) (hc : X.calm = true) (hi : DI X W tg it fi) (hg : DG X tg is g) (hgn : ∀ p e, Nx (g p e)) (hb : DSs X W bs body)
    (hs : ∀ x, foldedSetIterable it X.env x = pure x := by intro _; rfl) : DS X W (.For tg it bs [] pos) (fFor fi g body) :=
  ps_le (ps_for hp hc hi hg hb hs) fun D σ H ⟨H0, F0, F, env, r, q⟩ => by
    refine ⟨H0, F0, F, env, r, ?_⟩
    unfold fFor at q
    refine Rs.post_mono (Rs.post_bind.mp q) (fun p hp J F1 H1 r1 good e1 e2 => ?_) fun _ _ x => x.p (Same.refl F)
    obtain ⟨env1, ps⟩ := p
    dsimp only at hp r1 good
    refine ⟨fun i m σ' H' => ∃ F2 e, Rel X.K H0 F0 e σ' F2 H' ∧ Same F1 F2 ∧ m = ps.length - i ∧ (fLoop g body (ps.drop i) e).post (OutP X.K H0 F0 F2 D) (ExS X.K X.mg W H0 F0 F2),
      ⟨ps.length, F1, env1, r1, Same.refl F1, by omega, by simpa using Rs.post_mono hp (fun _ z => z.to e2) fun _ _ z => z.to e2⟩, fun i m σ' H' hw => ?_⟩
    obtain ⟨F2, e, r2, s2, em, q2⟩ := hw
    obtain ⟨g1, g2⟩ := good i F2 H' s2 r2.fz
    by_cases hi : i < ps.length
    · rw [List.drop_eq_getElem_cons hi] at q2
      obtain ⟨go, yld⟩ := g1 ps[i] (List.getElem?_eq_getElem hi)
      refine .inr ⟨go, fun σ3 H3 => ∃ F3 e3, Rel X.K H0 F0 e3 σ3 F3 H3 ∧ Same F1 F3 ∧ (fLoop g body (ps.drop (i + 1)) e3).post (OutP X.K H0 F0 F3 D) (ExS X.K X.mg W H0 F0 F3), fun σ3 H3 hn => ?_, fun x H3 hy => ?_⟩
      · obtain ⟨F3, e3, r3, s3, q3⟩ := hn
        exact ⟨ps.length - (i + 1), by omega, F3, e3, r3, s3, rfl, q3⟩
      · obtain ⟨F3, ex, ix⟩ := yld x H3 hy
        refine ⟨H0, F0, F3, e, ps[i], r2.ext ex, ix, ?_⟩
        unfold fLoop at q2
        refine Rs.post_mono (bind_noex (hgn _ _) q2) (fun e1 h1 σ4 r4 _ => ?_) fun _ _ z => z
        refine ⟨H0, F0, F3, e1, r4, ?_⟩
        refine Rs.post_mono (Rs.post_bind.mp h1) (fun o ho => ?_) fun _ _ z => z.to ex.f
        cases o with
        | nx e2 => exact fun σ5 F5 H5 r5 s5 => ⟨F5, e2, r5, (s2.trans ex.f).trans s5, Rs.post_mono ho (fun _ z => z.to (ex.f.trans s5)) fun _ _ z => z.to (ex.f.trans s5)⟩
        | ct e2 => exact fun σ5 F5 H5 r5 s5 => ⟨F5, e2, r5, (s2.trans ex.f).trans s5, Rs.post_mono ho (fun _ z => z.to (ex.f.trans s5)) fun _ _ z => z.to (ex.f.trans s5)⟩
        | bk e2 => exact fun σ5 F5 H5 r5 s5 => ho σ5 F5 H5 r5 (ex.f.trans s5)
        | rt r => exact fun v F5 H5 s5 => ho v F5 H5 (ex.f.trans s5)
    · refine .inl ⟨g2 (by omega), ?_⟩
      rw [List.drop_eq_nil_of_le (by omega)] at q2
      exact q2 σ' F2 H' r2 (Same.refl F2)
def fIfS (t : FT) (g h : FS) : FS := fun env => (t env).bind fun b => if b = true then g env else h env
theorem s_if {c : Expr} {t : FT} {g h : FS} {as bs : List Stmt} (hc : DT X W c t) (ha : DSs X W as g) (hb : DSs X W bs h) : DS X W (.If c as bs pos) (fIfS t g h) :=
  ps_le (ps_if hc ha hb) fun D σ H ⟨H0, F0, F, env, r, q⟩ => by
    refine ⟨H0, F0, F, env, r, ?_⟩
    unfold fIfS at q
    refine Rs.post_mono (Rs.post_bind.mp q) (fun d hd H' r' e => ?_) fun _ _ x => x.p (Same.refl F)
    cases d with
    | true => exact ⟨H0, F0, F, env, r', hd⟩
    | false => exact ⟨H0, F0, F, env, r', hd⟩
end
end Dn
namespace Dn
open PySem PySem.Spec L2 A1 A2 A3
abbrev SF := List PyData → Rs R
def spD (K : PySem.W.Frag) (mg : Str → Option Value) (n : Nat) (S : SF) : Sp := fun vs H Q E => ∃ F ps, vs.length = n ∧ Sg F H ∧ (TabsF K F ∧ LamT K H) ∧ IsA K H false F vs ps ∧
  (S ps).post (fun res => ∀ v F' H', Ext F H F' H' → VRes K H H F' H' v res → Q v H') (fun _ x => ∀ cls dO H', Sm H H' → ∀ H3, exnIs mg x cls dO H' H3 → E cls dO H3)
structure FnG (P : Program) (w : World) (K : PySem.W.Frag) (mg : Str → Option Value) (base : Heap) (k : Nat) (f : Addr) (fd : FuncData) (ps : List Str) (S : SF) : Prop where
  run : ∀ (A : Around) (outer : List PySem.Env) (s : Shared) (H : Hp) (args : Args) (us : List Value) (vs : List V) (Q : VK) (E : XK), Room k A → A.guards = some [] → Env0 P w K mg base A outer s H → BindsTo s fd args (ps.zip us) → Vals vs us →
    spD K mg ps.length S vs H Q E → codeAny (model P w) A (.call (.ref f) args) (CR (L2.CX P w) outer P w H s Q E) s
  len : ∀ ds, ds.length ≠ ps.length → S ds = .bad
theorem FnG.mono {P : Program} {w : World} {K : PySem.W.Frag} {mg : Str → Option Value} {base : Heap} {j k : Nat} {f : Addr} {fd : FuncData} {ps : List Str} {S : SF} (F : FnG P w K mg base j f fd ps S) (h : j ≤ k) : FnG P w K mg base k f fd ps S :=
  ⟨fun A outer s H args us vs Q E hr hg => F.run A outer s H args us vs Q E (hr.mono h) hg, F.len⟩
def envOf (N np : Nat) (ds : List PyData) : Env := (ds.map fun d => some (.sh (atom d) d)) ++ List.replicate (N - np) none
def runF (N np : Nat) (body : FS) : SF := fun ds => grd (decide (ds.length = np)) ((body (envOf N np ds)).bind fun o => match o with
  | .rt (.sh n d) => .ok (.sh n d)
  | .rt (.nw n ds) => .ok (.nw n ds)
  | .nx _ => .ok (.sh true .none)
  | _ => .bad)
theorem rel_start {K : PySem.W.Frag} {F H : Hp} {N : List Str} {np : Nat} {vs : List V} {ps : List PyData} (h : Sg F H) (tb : TabsF K F ∧ LamT K H) (hl : vs.length = np) (hN : np ≤ N.length) (ha : IsA K H false F vs ps) : Rel K H F (envOf N.length np ps) (L2.start N vs) F H := by
  have hps : ps.length = np := by rw [← ha.length, hl]
  refine ⟨fun _ _ => False, ⟨h, Sm.refl H, ?_, fun i s q => ?_, fun _ _ _ z => z.elim, fun _ _ z => z.elim, fun _ z => .inl z, Same.refl F, tb⟩⟩
  · unfold L2.start envOf
    simp [hl, hps]
  · unfold envOf at q
    by_cases hi : i < ps.length
    · rw [List.getElem?_append_left (by simpa using hi), List.getElem?_map] at q
      cases z : ps[i]? with
      | none => rw [z] at q; cases q
      | some p =>
        rw [z] at q
        have q' : Sl.sh (atom p) p = s := Option.some.inj (Option.some.inj q)
        subst q'
        obtain ⟨v, h1, h2⟩ := ha.get z
        refine ⟨v, ?_, ?_⟩
        · unfold L2.start
          rw [List.getElem?_append_left (by simp; omega), List.getElem?_map, h1]; rfl
        · show Is K H (atom p) F v p
          cases y : atom p with
          | true => exact Is.atom h2 y
          | false => exact Is.weak h2 (Same.refl F)
    · rw [List.getElem?_append_right (by simpa using hi), List.getElem?_replicate] at q
      split at q <;> cases q
section
variable {P : Program} {w : World} {K : PySem.W.Frag} {mg : Str → Option Value} {base : Heap}
abbrev WL (E : XK) : WX := fun cls d _ H => E cls d H
theorem fn_d {x qual : Str} {st : Stmt} {f : Addr} {fd : FuncData} {N ps : List Str} {k : Nat} {fb : FS} (F : Fun K x qual st f fd) (S : FnScope N ps (defScope st))
    (hbody : ∀ (cdv : Value) (A : Around) (outer : List PySem.Env) (s : Shared) (H : Hp) (E : XK), Room k (A.deeper (PyProof.Rows.envOfC qual (defScope st) s.heap.objs.size f cdv)) → (A.deeper (PyProof.Rows.envOfC qual (defScope st) s.heap.objs.size f cdv)).guards = some [] →
      DSs (cxOf (L2.CX P w) P w K mg base N qual (defScope st) f cdv A outer s H E) (WL E) (defBody st) fb) : FnG P w K mg base (k + 1) f fd ps (runF N.length ps.length fb) := by
  obtain ⟨oc, od, kV, doc, pm, an, cdv, ct, osl, rfl, lk, hcd⟩ := F.ex
  refine ⟨fun A outer s H args us vs Q E hr hg e0 hb r hsp => ?_, fun ds h => by unfold runF grd; rw [if_neg (by simpa using h)]⟩
  obtain ⟨Fh, qs, hl, hF, hT, ha, hpost⟩ := hsp
  have hql : qs.length = ps.length := by rw [← ha.length, hl]
  have keepB : ∀ b o, base.get? b = some o → s.heap.get? b = some o := fun b o e => (e0.bs b o e).1
  have KX : K.In s.heap := e0.mod.kin.keeps keepB
  have lim : s.heap.NoLimit := e0.mod.nolimit.keeps keepB
  have hkind : ∀ y ∈ ps.zip us, (defScope st).names.lookup y.1 = some .local ∨ ((defScope st).names.lookup y.1 = some .cell ∧ ((cellsFrom (s.heap.objs.size + 1) (defScope st).names []).lookup y.1).isSome = true) := fun y hy =>
    (S.par y.1 (List.of_mem_zip (a := y.1) (b := y.2) hy).1).imp_right fun q => ⟨q, PySem.W.cellsFrom_some _ _ _ (.inl q)⟩
  refine codeAny_call_function (hr.depth) (KX _ _ lk) rfl S.co S.gen rfl (PySem.W.codeRec_of KX hcd) (hb _ _ _ _ (wpAny_newFunctionEnv_cells S.kind hkind fun env he s1 xx => ?_))
  subst he
  refine ⟨lim.keeps xx.toInCall.keep, codeAny_func ?_⟩
  have hN : ps.length ≤ N.length := by have := congrArg List.length S.pre; rw [List.length_take] at this; omega
  have I := inv_start (CX := L2.CX P w) (mg := mg) (K := K) (P := P) (w := w) (E := E) S hr.hd e0 hl r xx
  have body := hbody cdv A outer s H E (hr.deeper _) hg
  unfold runF at hpost
  obtain ⟨_, hpost⟩ := grd_post hpost
  have hpost := Rs.post_bind.mp hpost
  have hq : tS K mg (WL E) fb { nx := fun _ H' => Q .non H', rt := Q } (L2.start N vs) H := ⟨H, Fh, Fh, _, rel_start hF hT hl hN ha, Rs.post_mono hpost (fun o ho => by
    cases o with
    | nx e => exact fun σ' F' H' r' e2 => ho .non F' H' ⟨e2, r'.base, r'.fz, rel_new r'⟩ .non
    | rt q =>
      cases q with
      | sh n d => exact fun v F' H' h1 h2 h3 h4 h5 => ho v F' H' ⟨h1, h3, h2, h4⟩ h5
      | nw n d => exact fun v F' H' h1 h2 h3 h4 h5 => ho v F' H' ⟨h1, h3, h2, h4⟩ h5
      | own i => exact ho.elim
    | bk e => exact ho.elim
    | ct e => exact ho.elim) fun e x hx cls dO σ F' H' r' _ z => hx cls dO H' r'.base z⟩
  refine wpAny_mono (body.run [] s1 (L2.start N vs) H _ I hq) (fun fl s' hs => ?_) fun _ _ z => z
  cases fl with
  | ret u =>
    obtain ⟨v, σ', H', J, rv, q⟩ := hs
    exact ⟨v, H', J.os, J.bare, J.base, J.hok, rv, q⟩
  | next =>
    obtain ⟨σ', H', J, q⟩ := hs
    exact ⟨V.non, H', J.os, J.bare, J.base, J.hok, rfl, q⟩
  | brk => exact (let ⟨_, _, _, q⟩ := hs; q : False).elim
  | cont => exact (let ⟨_, _, _, q⟩ := hs; q : False).elim
end
section
variable {X : Cx} {W : WX} {k : Nat} {f : Addr} {fd : FuncData} {ps ks : List Str} {S : SF} {x : Str} {p pos : PySem.Pos} {e : Expr} {es : List Expr} {fa fk : FA}
theorem run_g {pins : List (Addr × Obj)} {σ : St} {H : Hp} {s : Shared} {Q : VK} {args : Args} {us : List Value} {vs : List V} (G : FnG X.prog X.w X.K X.mg X.base k f fd ps S) (hr : Room k X.A) (hg : X.A.guards = some []) (tk : Takes X W)
    (hb : BindsTo s fd args (ps.zip us)) (I : L2.Inv X pins σ H s) (r : Vals vs us) (h : spD X.K X.mg ps.length S vs H Q (fun cls d H' => W cls d σ H')) : wpAny (model X.prog X.w) X.A (call (.ref f) args.pos args.kw) (EP X pins σ Q) X.xe s :=
  wpAny_call (codeAny_mono (G.run X.A X.stack s H args us vs Q _ hr hg I.env0 hb r h) fun res s' hq => by
    cases res with
    | error e => exact passAt tk σ pins H s e s' I hq
    | ok fl =>
      cases fl with
      | ret u => exact I.after hq
      | next => exact (hq : False).elim
      | brk => exact (hq : False).elim
      | cont => exact (hq : False).elim)
def callR (e : Env) (r : Rs R) : Rs (Env × R) := match r with
  | .ok (.sh n d) => .ok (e, .sh n d)
  | .ok (.nw n ds) => .ok (e, .nw n ds)
  | .ex _ x => .ex e x
  | .ch m f => .ch m fun i => callR e (f i)
  | _ => .bad
theorem callR_post {e : Env} {r : Rs R} {P : Env × R → Prop} {E : Env → Exn → Prop} (h : (callR e r).post P E) : r.post (fun res => (∀ i, res ≠ .own i) ∧ P (e, res)) (fun _ x => E e x) := by
  induction r with
  | bad => exact h
  | ok res =>
    cases res with
    | sh n d => exact ⟨fun _ z => (by cases z), h⟩
    | nw n d => exact ⟨fun _ z => (by cases z), h⟩
    | own i => exact h.elim
  | ex e x => exact h
  | ch m f ih => exact fun i hi => ih i (h i hi)
def fCall (S : SF) (f : FA) : FE := fun env => (f env).bind fun p => callR p.1 (S (p.2.map fun d => d.2))
theorem VRes.base {K : PySem.W.Frag} {H0 H F' H' : Hp} {v : V} {r : R} (h : VRes K H H F' H' v r) (e : Sm H0 H) : VRes K H0 H F' H' v r := by
  have l : ∀ n, Le H F' n H0 F' n := fun n => ⟨Same.refl F', id, fun _ a _ z => same_none e z⟩
  cases r with
  | sh n d => exact Is.le (l n) h
  | nw n ds =>
    obtain ⟨q, xs, h1, h2, h3, h4, h5⟩ := h
    exact ⟨q, xs, h1, h2, h3, h4, h5.le (l n)⟩
  | own i => exact h
theorem isA_weak {K : PySem.W.Frag} {H0 H F : Hp} : ∀ {vs : List V} {ps : List Dv}, All2 (IsV K H0 F H) vs ps → IsA K H false F vs (ps.map fun d => d.2)
  | _, _, .nil => .nil
  | _, _, .cons h t => .cons (Is.weak h (Same.refl F)) (isA_weak t)
theorem call_post {σ : St} {H : Hp} {Q : VK} {f : List V → Hp → Prop} {n : Nat} (hlen : ∀ ds, ds.length ≠ n → S ds = .bad) (h : tE X.K X.mg W (fCall S fa) σ H Q)
    (hf : ∀ vs H', spD X.K X.mg n S vs H' Q (fun cls d H'' => W cls d σ H'') → f vs H') : tAD X.K X.mg W fa σ H f := by
  obtain ⟨H0, F0, F, env, r, q⟩ := h
  refine ⟨H0, F0, F, env, r, ?_⟩
  unfold fCall at q
  refine Rs.post_mono (Rs.post_bind.mp q) (fun p hp vs F1 H1 r1 ha e1 e2 => ?_) fun _ _ z => z
  have hS : S (p.2.map fun d => d.2) ≠ .bad := fun z => by rw [z] at hp; exact hp.elim
  have hl : (p.2.map fun d => d.2).length = n := by
    by_cases y : (p.2.map fun d => d.2).length = n
    · exact y
    · exact absurd (hlen _ y) hS
  refine hf vs H1 ⟨F1, p.2.map fun d => d.2, by rw [ha.length]; simpa using hl, r1.fz, r1.tb, isA_weak ha, ?_⟩
  refine Rs.post_mono (callR_post hp) (fun res ⟨ho, hp⟩ => ?_) fun _ x hp => ?_
  · exact fun v F' H' ex hv => hp v F' H' ((hv.base r1.base).rel r1 ex) (e1.trans ex.h) (e2.trans ex.f)
  · exact fun cls dO H' e3 hx => hp cls dO F1 H' (r1.heap e3) (e1.trans e3) e2 hx
theorem d_call (G : FnG X.prog X.w X.K X.mg X.base k f fd ps S) (hr : Room k X.A) (hgd : X.A.guards = some []) (tk : Takes X W) (hg : Gl X x) (hm : X.mg x = some (.ref f)) (hk : PySem.W.keepIn X.K (.ref f) = true) (hb : Binds X.K fd ps [])
    (ha : DAD X W (e :: es) fa) (hdb : (x == ("__debug__" : Str)) = false := by decide) (he : starEach (e :: es) X.env = (false, eval e X.env) :: starEach es X.env := by rfl) (hpl : (backTo pos (starEach es X.env)).any (·.1) = false := by rfl) :
    DE X W (.Call (.Name x p) (e :: es) [] pos) (fCall S fa) := by
  refine ⟨fun pins s σ H Q I h => wpAny_Call_Name_kw (ld_glob I hg hm ?_ hdb)⟩
  refine PySem.W.callWith_K (h₀ := X.base) I.ok.mod.kin hk (thn (ha.run pos pins s σ H _ I (call_post (f := fun vs H' => spD X.K X.mg ps.length S vs H' Q fun cls d H'' => W cls d σ H'') G.len h fun _ _ z => z)) fun us s1 hv => ?_) he hpl
  obtain ⟨vs, H1, I1, rv, q⟩ := hv
  have hl : us.length = ps.length := by rw [← rv.length]; exact let ⟨_, _, z, _⟩ := q; z
  have b := hb s1 us I1.kIn (by rw [List.append_nil]; exact hl)
  rw [List.append_nil] at b
  exact ⟨I1.kIn, run_g G hr hgd tk b I1 rv q⟩
end
def wipeE (env : Env) : List Nat → Env
  | [] => env
  | i :: is => (wipeE env is).set i none
def backE (env1 env : Env) : List Nat → Env
  | [] => env
  | i :: is => (backE env1 env is).set i (env1.getD i none)
def okOwn (env : Env) (own : List Nat) : Bool := own.all fun i => match env.getD i none with
  | some (.sh _ _) => true
  | none => true
  | _ => false
def noex {α : Type} (r : Rs α) : Rs α := match r with
  | .ok a => .ok a
  | .ch m f => .ch m fun i => noex (f i)
  | _ => .bad
@[simp] theorem noex_ok {α : Type} (a : α) : noex (.ok a) = .ok a := rfl
def fLcL (own : List Nat) (g : FG) (t : FT) (el : FV) : List Dv → Env → List Dv → Rs (Env × List Dv)
  | [], e, acc => .ok (e, acc)
  | x :: xs, e, acc => (noex (g x e)).bind fun e1 => (noex (t e1)).bind fun b => if b = true then (noex (el e1)).bind fun p => grd (decide (acc.length < 1000000)) (fLcL own g t el xs (wipeE p.1 own) (acc ++ [p.2])) else fLcL own g t el xs (wipeE e1 own) acc
def fLc (own : List Nat) (it : FA) (g : FG) (t : FT) (el : FV) : FE := fun env => (it env).bind fun p => grd (okOwn p.1 own) ((fLcL own g t el p.2 (wipeE p.1 own) []).bind fun q => .ok (backE p.1 q.1 own, .nw (flags q.2) (datas q.2)))
theorem noex_post {α β : Type} {r : Rs α} {k : α → Rs β} {P : β → Prop} {E E' : Env → Exn → Prop} (h : ((noex r).bind k).post P E) : r.post (fun a => (k a).post P E) E' := by
  cases r with
  | bad => exact h
  | ok a => exact h
  | ex e x => exact False.elim h
  | ch m f => exact go (.ch m f) h
where
  go : ∀ r : Rs α, ((noex r).bind k).post P E → r.post (fun a => (k a).post P E) E'
  | .bad, h => h
  | .ok a, h => h
  | .ex e x, h => False.elim h
  | .ch m f, h => fun i hi => go (f i) (h i hi)
section
variable {K : PySem.W.Frag} {H0 F0 F H : Hp} {env : Env} {σ : St} {D : Addr} {o o' : HO}
theorem upd_none {H : Hp} {a D : Addr} {o : HO} : upd H D o a = none ↔ a ≠ D ∧ H a = none := by
  unfold upd
  by_cases h : a = D
  · simp [h]
  · simp [h]
theorem SlIs.rebase {B B' : Hp} {fp : Addr → Prop} {H' : Hp} {v : V} {s : Sl} (h : SlIs K B F H fp v s) (hb : ∀ a, F a ≠ none → B a = none → B' a = none) (hd : ∀ a, a ≠ D → H' a = H a) (hf : F D = none) (hfp : ¬ fp D) : SlIs K B' F H' fp v s := by
  cases s with
  | sh n d => exact Is.le (show Le B F n B' F n from ⟨Same.refl F, id, fun _ => hb⟩) h
  | ow n ds =>
    obtain ⟨p, xs, rfl, h1, h2, h3⟩ := h
    have : p ≠ D := fun z => by subst z; exact hfp h2
    exact ⟨p, xs, rfl, by rw [hd p this]; exact h1, h2, h3.le ⟨Same.refl F, id, fun _ => hb⟩⟩
  | rg d =>
    obtain ⟨G, h1, h2, h3, h4⟩ := h
    refine ⟨G, h1, h2.off fun a e => hd a fun z => ?_, h3, h4⟩
    subst z
    rcases h3 a e with z | z
    · exact z hf
    · exact hfp z
  | rl ds =>
    obtain ⟨p, xs, G, rfl, k1, k2, k3, h1, h2, h3, h4⟩ := h
    have hp : p ≠ D := fun z => by subst z; exact hfp k2
    refine ⟨p, xs, G, rfl, by rw [hd p hp]; exact k1, k2, k3, h1, h2.off fun a e => hd a fun z => ?_, h3, h4⟩
    subst z
    rcases h3 a e with z | z
    · exact z hf
    · exact hfp z
  | od q =>
    obtain ⟨p, xs, rfl, h1, h2, h3⟩ := h
    have : p ≠ D := fun z => by subst z; exact hfp h2
    exact ⟨p, xs, rfl, by rw [hd p this]; exact h1, h2, h3.old⟩
  | on q =>
    obtain ⟨p, xs, rfl, h1, h2, h3⟩ := h
    have : p ≠ D := fun z => by subst z; exact hfp h2
    exact ⟨p, xs, rfl, by rw [hd p this]; exact h1, h2, h3.old⟩
  | ou q =>
    obtain ⟨p, xs, rfl, h1, h2, h3⟩ := h
    have : p ≠ D := fun z => by subst z; exact hfp h2
    exact ⟨p, xs, rfl, by rw [hd p this]; exact h1, h2, h3.old⟩
  | oz q kd es =>
    obtain ⟨p, b, c, xs, k, kvs, rfl, h1, h2, h3, h4, h5, h6, h7, h8⟩ := h
    have hp : p ≠ D := fun z => by subst z; exact hfp h2
    have hb : b ≠ D := fun z => by subst z; exact hfp h4
    exact ⟨p, b, c, xs, k, kvs, rfl, by rw [hd p hp]; exact h1, h2, by rw [hd b hb]; exact h3, h4, h5.old, h6, h7.weak (Same.refl _), h8.old⟩
  | oy q kd n es =>
    obtain ⟨p, b, c, xs, k, kvs, rfl, h1, h2, h3, h4, h5, h6, h7, h8⟩ := h
    have hp : p ≠ D := fun z => by subst z; exact hfp h2
    have hbD : b ≠ D := fun z => by subst z; exact hfp h4
    exact ⟨p, b, c, xs, k, kvs, rfl, by rw [hd p hp]; exact h1, h2, by rw [hd b hbD]; exact h3, h4, h5.old, h6, h7.weak (Same.refl _), h8.le ⟨Same.refl F, id, fun _ => hb⟩⟩
theorem upd_off {H : Hp} {D : Addr} {o : HO} : ∀ a, a ≠ D → upd H D o a = H a := fun _ h => upd_ne h
theorem Rel.baseNew (r : Rel K H0 F0 env σ F H) (hD : H D = none) (n : spc o = false := by rfl) : Rel K (upd H0 D o) F0 env σ F (upd H D o) := by
  obtain ⟨fp, r⟩ := r
  have fD : F D = none := same_none r.fz hD
  have nfp : ∀ i, ¬ fp i D := fun i z => (r.out i D z).2.2.ne hD
  have hD0 : H0 D = none := same_none r.base hD
  have b1 : Sm (upd H0 D o) (upd H D o) := ⟨fun a u e nu => by
    by_cases y : a = D
    · subst y; rw [upd_same] at e ⊢; exact e
    · rw [upd_ne y] at e ⊢; exact r.base.at_ a u e nu, fun a e => by
    by_cases y : a = D
    · subst y; rw [upd_same]; exact fun z => nomatch z
    · rw [upd_ne y] at e ⊢; exact r.base.ne a e, fun P q t => (same_new (o := o) hD : Sm H (upd H D o)).tabs P q (r.base.tabs P q (t.drop n))⟩
  refine ⟨fp, ⟨r.fz.trans (same_new hD), b1, r.len, fun i s q => ?_, r.dis, fun i a h => ?_, fun a z => ?_, r.f0, r.tb.1, r.tb.2.to (same_new hD0)⟩⟩
  · obtain ⟨v, h1, h2⟩ := r.sl i s q
    exact ⟨v, h1, h2.rebase (D := D) (fun a fa ha => by rw [upd_ne (fun z => fa (by rw [z]; exact fD))]; exact ha) upd_off fD (nfp i)⟩
  · obtain ⟨h1, h2, h3⟩ := r.out i a h
    have : a ≠ D := fun z => nfp i (z ▸ h)
    exact ⟨h1, by rw [upd_ne this]; exact h2, h3.to (same_new hD)⟩
  · have : a ≠ D := fun y => z (by rw [y]; exact fD)
    rw [upd_ne this]; exact r.new a z
theorem base_f (r : Rel K (upd H0 D o) F0 env σ F H) (h0 : F0 D = none) : F D = none := by
  obtain ⟨fp, r⟩ := r
  cases q : F D with
  | none => rfl
  | some u =>
    rcases r.new D (by rw [q]; exact fun z => nomatch z) with z | z
    · exact absurd h0 z
    · rw [upd_same] at z; cases z
theorem Rel.baseSet (r : Rel K (upd H0 D o) F0 env σ F H) (h0 : F0 D = none) (n : spc o = false := by rfl) (n' : spc o' = false := by rfl) : Rel K (upd H0 D o') F0 env σ F (upd H D o') := by
  have fD := base_f r h0
  obtain ⟨fp, r⟩ := r
  have nfp : ∀ i, ¬ fp i D := fun i z => by have := (r.out i D z).2.1; rw [upd_same] at this; cases this
  refine ⟨fp, ⟨r.fz.wr fD, r.base.both n n', r.len, fun i s q => ?_, r.dis, fun i a h => ?_, fun a z => ?_, r.f0, r.tb.1, r.tb.2.swap n⟩⟩
  · obtain ⟨v, h1, h2⟩ := r.sl i s q
    refine ⟨v, h1, h2.rebase (D := D) (fun a fa ha => ?_) upd_off fD (nfp i)⟩
    rw [upd_none] at ha ⊢; exact ha
  · obtain ⟨h1, h2, h3⟩ := r.out i a h
    rw [upd_none] at h2
    exact ⟨h1, upd_none.mpr h2, ⟨by rw [upd_ne h2.1]; exact h3.ne, fun u hu => by rw [upd_ne h2.1] at hu; exact h3.n u hu⟩⟩
  · rcases r.new a z with y | y
    · exact .inl y
    · exact .inr (upd_none.mpr (upd_none.mp y))
theorem Rel.baseOff {n : Bool} {xs : List V} {ds : List PyData} (r : Rel K (upd H0 D o) F0 env σ F H) (h0 : F0 D = none) (hB : H0 D = none) (hD : H D = some (.lst xs)) (hi : IsA K H0 n F xs ds) (no : spc o = false := by rfl) : Rel K H0 F0 (env ++ [some (.ow n ds)]) (σ ++ [some (.ref D)]) F H := by
  have fD := base_f r h0
  obtain ⟨fp, r⟩ := r
  have nfp : ∀ i, ¬ fp i D := fun i z => by have := (r.out i D z).2.1; rw [upd_same] at this; cases this
  have r1 : RelF K H0 F0 env σ F H fp := ⟨r.fz, (A2.same_new (o := o) hB).trans r.base, r.len, fun i s q => by
    obtain ⟨v, h1, h2⟩ := r.sl i s q
    exact ⟨v, h1, h2.rebase (D := D) (fun a fa ha => (upd_none.mp ha).2) (fun _ _ => rfl) fD (nfp i)⟩, r.dis, fun i a h => ⟨(r.out i a h).1, (upd_none.mp (r.out i a h).2.1).2, (r.out i a h).2.2⟩, fun a z => (r.new a z).imp_right fun y => (upd_none.mp y).2, r.f0, r.tb.1, r.tb.2.drop no⟩
  refine ⟨_, r1.push (g := fun a => a = D) ⟨D, xs, rfl, hD, rfl, hi⟩ (fun i a _ ha z => ?_) fun a z => ?_⟩
  · have z : a = D := z
    subst z; exact nfp i ha
  · have z : a = D := z
    subst z; exact ⟨fD, hB, .mk' hD⟩
end
theorem wipe_out {σ : St} {i : Nat} : ∀ {vs : List Nat}, i ∉ vs → (wipe σ vs)[i]? = σ[i]?
  | [], _ => rfl
  | v :: vs, h => by
    unfold wipe
    rw [List.getElem?_set_ne (fun z => h (by simp [z]))]
    exact wipe_out fun z => h (List.mem_cons_of_mem _ z)
theorem wipe_in {σ : St} {i : Nat} : ∀ {vs : List Nat}, i ∈ vs → (wipe σ vs)[i]? = if i < σ.length then some none else none
  | v :: vs, h => by
    unfold wipe
    by_cases z : v = i
    · subst z
      by_cases y : v < σ.length
      · rw [if_pos y, List.getElem?_set_self (by rw [wipe_length]; exact y)]
      · rw [if_neg y, List.getElem?_eq_none (by rw [List.length_set, wipe_length]; omega)]
    · rw [List.getElem?_set_ne z]
      exact wipe_in ((List.mem_cons.mp h).resolve_left fun y => z y.symm)
theorem wipe_but {σ σ2 : St} {is vs : List Nat} (h : But is (wipe σ vs) σ2) (hs : ∀ i ∈ is, i ∈ vs) : wipe σ2 vs = wipe σ vs := by
  have hl : σ2.length = σ.length := by rw [h.1, wipe_length]
  apply List.ext_getElem?
  intro i
  by_cases hi : i ∈ vs
  · rw [wipe_in hi, wipe_in hi, hl]
  · rw [wipe_out hi, h.2 i fun z => hi (hs i z)]
theorem wipeE_length (env : Env) : ∀ vs : List Nat, (wipeE env vs).length = env.length
  | [] => rfl
  | v :: vs => by unfold wipeE; rw [List.length_set, wipeE_length env vs]
theorem wipeE_get {env : Env} {i : Nat} {s : Sl} : ∀ {vs : List Nat}, (wipeE env vs)[i]? = some (some s) → i ∉ vs ∧ env[i]? = some (some s)
  | [], h => ⟨by simp, h⟩
  | v :: vs, h => by
    unfold wipeE at h
    rcases set_get h with ⟨_, z⟩ | ⟨h1, h2⟩
    · cases z
    · obtain ⟨h3, h4⟩ := wipeE_get h2
      exact ⟨by simp only [List.mem_cons, not_or]; exact ⟨h1, h3⟩, h4⟩
theorem backE_length (env1 env : Env) : ∀ vs : List Nat, (backE env1 env vs).length = env.length
  | [] => rfl
  | v :: vs => by unfold backE; rw [List.length_set, backE_length env1 env vs]
theorem backE_get {env1 env : Env} {i : Nat} {s : Sl} : ∀ {vs : List Nat}, (backE env1 env vs)[i]? = some (some s) → (i ∈ vs ∧ env1.getD i none = some s) ∨ (i ∉ vs ∧ env[i]? = some (some s))
  | [], h => .inr ⟨by simp, h⟩
  | v :: vs, h => by
    unfold backE at h
    rcases set_get h with ⟨z1, z2⟩ | ⟨h1, h2⟩
    · exact .inl ⟨by simp [z1], by rw [z1]; exact z2⟩
    · rcases backE_get h2 with ⟨h3, h4⟩ | ⟨h3, h4⟩
      · exact .inl ⟨List.mem_cons_of_mem _ h3, h4⟩
      · exact .inr ⟨by simp only [List.mem_cons, not_or]; exact ⟨h1, h3⟩, h4⟩
theorem rel_wipe {K : PySem.W.Frag} {H0 F0 F H : Hp} {env : Env} {σ σ0 : St} {vs : List Nat} (r : Rel K H0 F0 env σ F H) (h : wipe σ vs = wipe σ0 vs) : Rel K H0 F0 (wipeE env vs) (wipe σ0 vs) F H := by
  rw [← h]
  refine r.sub (by rw [wipe_length, wipeE_length, r.len]) fun i s q => ?_
  obtain ⟨h1, h2⟩ := wipeE_get q
  exact .inl ⟨h2, wipe_out h1⟩
theorem rel_back {K : PySem.W.Frag} {H0 F0 F1 H1 F H : Hp} {env1 env : Env} {σ : St} {x : Option Sl} {y : Option V} {vs : List Nat} (r1 : Rel K H0 F0 env1 σ F1 H1) (ok : okOwn env1 vs = true) (e : Same F1 F) (r : Rel K H0 F0 (env ++ [x]) (wipe σ vs ++ [y]) F H) :
    Rel K H0 F0 (backE env1 env vs ++ [x]) (σ ++ [y]) F H := by
  have hl : σ.length = env.length := by have := r.len; rw [List.length_append, List.length_append, wipe_length] at this; simpa using this
  refine r.sub (by simp [backE_length, hl]) fun i s q => ?_
  by_cases hi : i < env.length
  · rw [List.getElem?_append_left (by rw [backE_length]; exact hi)] at q
    rcases backE_get q with ⟨h1, h2⟩ | ⟨h1, h2⟩
    · have hs := List.all_eq_true.mp ok i h1
      rw [h2] at hs
      cases s with
      | sh n d =>
        have hg : env1[i]? = some (some (.sh n d)) := by
          rw [List.getD_eq_getElem?_getD] at h2
          cases z : env1[i]? with
          | none => rw [z] at h2; cases h2
          | some w => rw [z] at h2; exact congrArg some h2
        obtain ⟨fp, rf⟩ := r1
        obtain ⟨v, g1, g2⟩ := rf.sl i _ hg
        exact .inr ⟨v, n, d, rfl, app_left g1, Is.to g2 e⟩
      | ow n d => cases hs
      | rg d => cases hs
      | rl d => cases hs
      | od d => cases hs
      | on d => cases hs
      | ou d => cases hs
      | oz d kd es => cases hs
      | oy d kd n es => cases hs
    · refine .inl ⟨app_left h2, ?_⟩
      rw [List.getElem?_append_left (by omega), List.getElem?_append_left (by rw [wipe_length]; omega), wipe_out h1]
  · rw [List.getElem?_append_right (by rw [backE_length]; omega), backE_length] at q
    refine .inl ⟨by rw [List.getElem?_append_right (by omega)]; exact q, ?_⟩
    rw [List.getElem?_append_right (by omega), List.getElem?_append_right (by rw [wipe_length]; omega), wipe_length]
abbrev W0 : WX := fun _ _ _ _ => False
theorem flags_app {ps : List Dv} {p : Dv} : flags (ps ++ [p]) = (flags ps && p.1) := by simp [flags]
theorem datas_app {ps : List Dv} {p : Dv} : datas (ps ++ [p]) = datas ps ++ [p.2] := by simp [datas]
theorem lc_le {K : PySem.W.Frag} {mg : Str → Option Value} {W : WX} {own is : List Nat} {fi : FA} {g : FG} {t : FT} {el : FV} {σ : St} {H : Hp} {Q : VK} (his : ∀ i ∈ is, i ∈ own) (h : tE K mg W (fLc own fi g t el) σ H Q) :
    tLc (tI K mg W fi) (tG K is g) (tT K mg W0 t) (tD K mg W0 el) own σ H Q := by
  obtain ⟨H0, F0, F, env, r, h⟩ := h
  refine ⟨H0, F0, F, env, r, ?_⟩
  unfold fLc at h
  refine Rs.post_mono (Rs.post_bind.mp h) (fun p hp J F1 H1 r1 good e1 e2 => ?_) fun _ _ x => x
  obtain ⟨env1, ps⟩ := p
  dsimp only at hp r1 good
  obtain ⟨ok, hp⟩ := grd_post hp
  have hp := Rs.post_bind.mp hp
  intro D hD
  have fD1 : F1 D = none := same_none r1.fz hD
  have f0 : F0 D = none := by obtain ⟨fp, rf⟩ := r1; exact same_none rf.f0 fD1
  have b0 : H0 D = none := same_none r1.base hD
  refine ⟨fun i m H' => ∃ F2 e acc xs, Rel K (upd H0 D (.lst xs)) F0 e (wipe σ own) F2 H' ∧ Same F1 F2 ∧ Sm H1 H' ∧ H' D = some (.lst xs) ∧ IsA K H0 (flags acc) F2 xs (datas acc) ∧ m = ps.length - i ∧
      (fLcL own g t el (ps.drop i) e acc).post (fun q => ∀ v F' H', RelR K H0 F0 (backE env1 q.1 own) σ F' H' v (.nw (flags q.2) (datas q.2)) → Sm H H' → Same F F' → Q v H') (ExP K mg W H0 F0 F H σ),
    ⟨ps.length, F1, wipeE env1 own, [], [], rel_wipe (r1.baseNew hD) rfl, Same.refl F1, same_new hD, upd_same, .nil, by omega, by rw [List.drop_zero]; exact hp⟩, fun i m H' hw => ?_⟩
  obtain ⟨F2, e, acc, xs, r2, s2, k2, hx, ia, em, q2⟩ := hw
  have fD2 := base_f r2 f0
  obtain ⟨g1, g2⟩ := good i F2 H' s2 r2.fz
  by_cases hi : i < ps.length
  · rw [List.drop_eq_getElem_cons hi] at q2
    obtain ⟨go, yld⟩ := g1 ps[i] (List.getElem?_eq_getElem hi)
    refine .inr ⟨go, fun H3 => ∃ F3 e3 acc3 xs3, Rel K (upd H0 D (.lst xs3)) F0 e3 (wipe σ own) F3 H3 ∧ Same F1 F3 ∧ Sm H1 H3 ∧ H3 D = some (.lst xs3) ∧ IsA K H0 (flags acc3) F3 xs3 (datas acc3) ∧
      (fLcL own g t el (ps.drop (i + 1)) e3 acc3).post (fun q => ∀ v F' H', RelR K H0 F0 (backE env1 q.1 own) σ F' H' v (.nw (flags q.2) (datas q.2)) → Sm H H' → Same F F' → Q v H') (ExP K mg W H0 F0 F H σ), fun H3 hn => ?_, fun x H3 hy => ?_⟩
    · obtain ⟨F3, e3, acc3, xs3, z1, z2, z3, z4, z5, z6⟩ := hn
      exact ⟨ps.length - (i + 1), by omega, F3, e3, acc3, xs3, z1, z2, z3, z4, z5, rfl, z6⟩
    · obtain ⟨F3, ex, ix⟩ := yld x H3 hy
      have fD3 : F3 D = none := by
        cases z : F3 D with
        | none => rfl
        | some o =>
          rcases ex.new D (by rw [z]; exact fun z => nomatch z) with y | y
          · exact absurd fD2 y
          · rw [hx] at y; cases y
      refine ⟨upd H0 D (.lst xs), F0, F3, e, ps[i], r2.ext ex, Is.le (show Le H0 F3 ps[i].1 (upd H0 D (.lst xs)) F3 ps[i].1 from ⟨Same.refl F3, id, fun _ a fa ha => by rw [upd_ne (fun z => fa (by rw [z]; exact fD3))]; exact ha⟩) ix, ?_⟩
      unfold fLcL at q2
      refine Rs.post_mono (noex_post (E' := fun _ _ => False) q2) (fun e4 h4 σ4 r4 b4 => ⟨wipe_but b4 his, ?_⟩) fun _ _ z => z
      refine ⟨upd H0 D (.lst xs), F0, F3, e4, r4, ?_⟩
      refine Rs.post_mono (noex_post (E' := fun _ _ => False) h4) (fun b h5 H5 r5 e5 => ?_) fun _ _ z => z.elim
      cases b with
      | true =>
        rw [if_pos rfl] at h5 ⊢
        refine ⟨upd H0 D (.lst xs), F0, F3, e4, r5, ?_⟩
        refine Rs.post_mono (noex_post (E' := fun _ _ => False) h5) (fun p6 h6 y F6 H6 r6 i6 e6 s6 => ?_) fun _ _ z => z.elim
        obtain ⟨hz, h6⟩ := grd_post h6
        have hz := of_decide_eq_true hz
        have hxs : xs.length < 1000000 := by rw [ia.length]; simpa [datas] using hz
        have hD6 : H6 D = some (.lst xs) := e6.g (e5.g (ex.h.g hx))
        refine ⟨xs, hD6, million hxs, F6, wipeE p6.1 own, acc ++ [p6.2], xs ++ [y], rel_wipe (r6.baseSet f0) (wipe_but b4 his), (s2.trans ex.f).trans s6, (((k2.trans ex.h).trans e5).trans e6).put hD (fun u hu => by rw [hD6] at hu; cases hu; rfl), upd_same, ?_, h6⟩
        · rw [flags_app, datas_app]
          have e36 : Same F2 F6 := ex.f.trans s6
          refine IsA.append ((ia.to e36).le1) (.cons ?_ .nil)
          exact Is.le2 (Is.le (show Le (upd H0 D (.lst xs)) F6 p6.2.1 H0 F6 p6.2.1 from ⟨Same.refl F6, id, fun _ a _ ha => (upd_none.mp ha).2⟩) i6)
      | false =>
        rw [if_neg (by decide)] at h5 ⊢
        exact ⟨F3, wipeE e4 own, acc, xs, rel_wipe r5 (wipe_but b4 his), s2.trans ex.f, (k2.trans ex.h).trans e5, e5.g (ex.h.g hx), ia.to ex.f, h5⟩
  · refine .inl ⟨g2 (by omega), ?_⟩
    rw [List.drop_eq_nil_of_le (by omega)] at q2
    exact q2 (.ref D) F2 H' (rel_back r1 ok s2 (r2.baseOff f0 b0 hx ia)) (e1.trans k2) (e2.trans s2)
section
variable {X : Cx} {W : WX} {elt tg iter : Expr} {ifs : List Expr} {scope : Scope} {own : List (Str × Nat)} {pos : PySem.Pos} {is : List Nat} {fi : FA} {g : FG} {t : FT} {fe : FE}
theorem d_lc (hc : X.calm = true) (hN : X.N.Nodup) (hi : DI X W tg iter fi) (ok : BlkOk X.N X.env.scope scope own) (his : ∀ i ∈ is, i ∈ own.map (·.2))
    (hg : ∀ (s : Shared) (H : Hp) (C : Addr) (cl : List (Str × Addr)) (fp : List Addr), DG (X.blk s H scope (compEnvC scope cl C X.env) fp) tg is g)
    (ht : ∀ (s : Shared) (H : Hp) (C : Addr) (cl : List (Str × Addr)) (fp : List Addr), PTs (X.blk s H scope (compEnvC scope cl C X.env) fp) ifs (tT X.K X.mg W0 t))
    (he : ∀ (s : Shared) (H : Hp) (C : Addr) (cl : List (Str × Addr)) (fp : List Addr), DE (X.blk s H scope (compEnvC scope cl C X.env) fp) W0 elt fe) (hs : ∀ x, foldedSetIterable iter X.env x = pure x := by intro _; rfl) :
    DE X W (.ListComp elt [⟨tg, iter, ifs, 0⟩] scope pos) (fLc (own.map (·.2)) fi g t (st fe)) :=
  pe_le (pe_lc hc hN hi ok hg ht (fun s H C cl fp => (he s H C cl fp).d) hs) fun σ H Q q => lc_le his q
def fYes : FT := fun _ => .ok true
theorem ts_nil : PTs X [] (tT X.K X.mg W0 fYes) := ⟨fun pins s σ H Q I h => pts_nil.run pins s σ H Q I (by
  obtain ⟨H0, F0, F, env, r, q⟩ := h
  exact q H r (Sm.refl H))⟩
end
end Dn
namespace Dn
open PySem PySem.Spec L2 A1 A2 A3
section
variable {K : PySem.W.Frag} {H0 F H : Hp} {v : V} {n : Bool}
theorem vw_str {x : Str} (h : Vw K H0 F H v (n, .str x)) : v = .str x := by
  rcases h with h | ⟨_, _, _, _, h, _⟩
  · cases h; rfl
  · cases h
theorem vw_bool {x : Bool} (h : Vw K H0 F H v (n, .bool x)) : v = .bl x := by
  rcases h with h | ⟨_, _, _, _, h, _⟩
  · cases h; rfl
  · cases h
theorem vw_none (h : Vw K H0 F H v (n, .none)) : v = .non := by
  rcases h with h | ⟨_, _, _, _, h, _⟩
  · cases h; rfl
  · cases h
theorem vw_list {ds : List PyData} (fz : Sg F H) (h : Vw K H0 F H v (n, .list ds)) : ∃ a xs, v = .ref a ∧ SqL K H a xs ∧ IsA K H0 n F xs ds := by
  rcases h with h | ⟨a, xs, es, rfl, e, h1, _, h2⟩
  · cases h with | lst hs _ ha => exact ⟨_, _, rfl, (fz).seq hs, ha⟩
  · cases e; exact ⟨a, xs, rfl, .inl (.inl h1), h2⟩
theorem vw_tup {ds : List PyData} (fz : Sg F H) (h : Vw K H0 F H v (n, .tuple ds)) : ∃ a xs, v = .ref a ∧ Tz F a xs ∧ SqT K H a xs ∧ IsA K H0 n F xs ds := by
  rcases h with h | ⟨_, _, _, _, h, _⟩
  · cases h with | tup hs ha => exact ⟨_, _, rfl, hs, (hs.to fz).sq, ha⟩
  · cases h
mutual
theorem Is.dp : ∀ {d : PyData} {v : V}, Is K H0 n F v d → PyData.canLay0 d = true → Dp K F v d
  | _, _, .non, _ => .non
  | _, _, .bl b, _ => .bl b
  | _, _, .int i, _ => .int i
  | _, _, .str x, _ => .str x
  | _, _, .lst h _ a, hd => .lst h (IsA.dp a (by simpa [PyData.canLay0] using hd))
  | _, _, .tup h a, hd => .tup h.sq (IsA.dp a (by simpa [PyData.canLay0] using hd))
  | _, _, .dk _ _ _, hd => by simp [PyData.canLay0] at hd
  | _, _, .dt _ _ _, hd => by simp [PyData.canLay0] at hd
  | _, _, .dl _ _ _, hd => by simp [PyData.canLay0] at hd
  | _, _, .exc _ _ _ _, hd => by simp [encX, PyData.canLay0] at hd
  | _, _, .nst _ _ _, hd => by simp [encN, PyData.canLay0] at hd
  | _, _, .pl _, hd => by simp [encPl, PyData.canLay0] at hd
  | _, _, .kl _ _ _, hd => by simp [PyData.canLay0] at hd
  | _, _, .du _ _ _ _ _ _, hd => by simp [PyData.canLay0] at hd
  | _, _, .dul _ _ _ _ _ _, hd => by simp [PyData.canLay0] at hd
theorem IsA.dp : ∀ {ds : List PyData} {vs : List V}, IsA K H0 n F vs ds → PyData.canLayAll0 ds = true → DpAll K F vs ds
  | _, _, .nil, _ => .nil
  | _, _, .cons h t, hd => by
    rw [PyData.canLayAll0, Bool.and_eq_true] at hd
    exact .cons (Is.dp h hd.1) (IsA.dp t hd.2)
end
mutual
theorem dp_to {F H : Hp} (e : Sg F H) : ∀ {d : PyData} {v : V}, Dp K F v d → Dp K H v d
  | _, _, .non => .non
  | _, _, .bl b => .bl b
  | _, _, .int i => .int i
  | _, _, .str x => .str x
  | _, _, .lst h a => .lst (e.seq h) (dpA_to e a)
  | _, _, .tup h a => .tup (same_t e h) (dpA_to e a)
theorem dpA_to {F H : Hp} (e : Sg F H) : ∀ {d : List PyData} {v : List V}, DpAll K F v d → DpAll K H v d
  | _, _, .nil => .nil
  | _, _, .cons h t => .cons (dp_to e h) (dpA_to e t)
end
theorem vw_dp {p : Dv} (fz : Sg F H) (h : Vw K H0 F H v p) (hd : PyData.canLay0 p.2 = true) : Dp K H v p.2 := by
  rcases h with h | ⟨a, xs, es, rfl, e, h1, _, h2⟩
  · exact dp_to fz (Is.dp h hd)
  · rw [e] at hd ⊢
    exact .lst (.inl (.inl h1)) (dpA_to fz (h2.dp (by simpa [PyData.canLay0] using hd)))
end
theorem opr_mk {X : Cx} {f : Value → Value → Sem Value} {g : G2} (h : ∀ (pins : List (Addr × Obj)) (s : Shared) (σ : St) (H : Hp) (x y : V) (v u : Value) (Q : VK) (H0 F : Hp) (m n : Bool) (d e : PyData), L2.Inv X pins σ H s → RelV x v → RelV y u → Sg F H → Sm H0 H →
    Vw X.K H0 F H x (m, d) → Vw X.K H0 F H y (n, e) → (g (m, d) (n, e)).post (fun res => ∀ v F' H', Ext F H F' H' → VRes X.K H0 H F' H' v res → Q v H') (fun _ _ => False) → wpAny (model X.prog X.w) X.A (f v u) (EP X pins σ Q) X.xe s) : OpR X f (rG2 X.K g) :=
  fun pins s σ H x y v u Q I rx ry ⟨H0, F, p, q, fz, bs, vx, vy, hp⟩ => h pins s σ H x y v u Q H0 F p.1 q.1 p.2 q.2 I rx ry fz bs vx vy hp
section
variable {X : Cx} {s : Shared} {σ : St} {H : Hp} {pins : List (Addr × Obj)}
def sc (d : PyData) : Rs R := .ok (.sh true d)
theorem sc_ok {K : PySem.W.Frag} {H0 F H : Hp} {Q : VK} {v : V} {d : PyData} (h : (sc d).post (fun res => ∀ v F' H', Ext F H F' H' → VRes K H0 H F' H' v res → Q v H') (fun _ _ => False)) (fz : Sg F H) (hd : Is K H0 true F v d) : Q v H := h v F H (Ext.refl fz) hd
theorem cat_lists {prog : Program} {w : World} {A : Around} {E : Value → Shared → Prop} {l b : Addr} {vs ws : List Value} {Q : Value → Shared → Prop} (hl : PlainL s.heap l vs.toArray) (hb : PlainL s.heap b ws.toArray) (hz : vs.length + ws.length ≤ sizeLine)
    (h : Q (.ref s.heap.objs.size) { s with heap := s.heap.push { cls := .type "list", data := .seq (vs ++ ws).toArray } }) : wpAny (model prog w) A (binaryOp .Add (.ref l) (.ref b)) Q E s := by
  obtain ⟨⟨c1, d1, x1, s1⟩, n1, ho, hc, hdd, hd⟩ := hl
  obtain ⟨⟨c2, d2, x2, s2⟩, n2, ho2, hc2, hdd2, hd2⟩ := hb
  dsimp only at hc hd hc2 hd2
  subst hc hd hc2 hd2
  have e : vs.toArray ++ ws.toArray = (vs ++ ws).toArray := by simp
  refine concat_meets ⟨_, ho, rfl⟩ ⟨_, ho2, rfl⟩ noFill_list_add seq_list_add PySem.F.slot_list_add PySem.F.entry_list_add (PySem.F.args_list_add_2 _ _) (PyProof.Rows.list_addW l b vs.toArray ws.toArray n1 n2 d1 d2 s1 s2 (by simpa using hz)) ⟨ho, ho2, ?_⟩
  rw [e]; exact h
def gAdd : G2 := fun p q => match p.2, q.2 with
  | .int a, .int b => sc (.int (a + b))
  | .str a, .str b => grd (decide (a.length + b.length ≤ 1000000)) (sc (.str (a ++ b)))
  | .list a, .list b => grd (decide (a.length + b.length ≤ 1000000)) (.ok (.nw (p.1 && q.1) (a ++ b)))
  | .tuple a, .tuple b => grd (decide (a.length + b.length ≤ 1000000)) (.ok (.sh (p.1 && q.1) (.tuple (a ++ b))))
  | _, _ => .bad
theorem million' {n : Nat} (h : n ≤ 1000000) : n ≤ sizeLine := Nat.le_trans h (by decide)
def rCatZ (K : PySem.W.Frag) : R2 := fun x y H Q => ∃ a b xs ys, x = .ref a ∧ y = .ref b ∧ SqT K H a xs ∧ SqT K H b ys ∧ xs.length + ys.length ≤ sizeLine ∧
  (xs = [] → Q (.ref b) H) ∧ (xs ≠ [] → ys = [] → Q (.ref a) H) ∧ (xs ≠ [] → ys ≠ [] → ∀ p o, H p = none → o.dict = none → Q (.ref p) (upd H p (tupZ o (xs ++ ys))))
theorem op_catZ : OpR X (binaryOp .Add) (rCatZ X.K) := by
  intro pins s σ H x y v u Q I rx ry h
  obtain ⟨a, b, xs, ys, rfl, rfl, ha, hb, hz, q0, q1, q2⟩ := h
  cases rx
  cases ry
  obtain ⟨its, r1, p1, _⟩ := I.tuple ha
  obtain ⟨its2, r2, p2, _⟩ := I.tuple hb
  by_cases hx : xs = []
  · subst hx
    cases r1
    exact cat_tup0 p1 p2 ⟨.ref b, H, I, rfl, q0 rfl⟩
  · refine HT.cat_tup p1 p2 (fun z => hx (r1.nil_iff.mp z)) (fun z => ⟨.ref a, H, I, rfl, q1 hx (r2.nil_iff.mp z)⟩) (fun z => ?_) (by rw [← r1.length, ← r2.length]; exact hz)
    exact ⟨.ref s.heap.objs.size, _, Inv.laidZ (t' := s.toks) I (r1.append r2) (by rw [List.length_append]; exact hz), rfl, q2 hx (fun w => z (r2.nil_iff.mpr w)) _ _ (I.hok.fresh (Nat.le_refl _)) rfl⟩
theorem op_gAdd : OpR X (binaryOp .Add) (rG2 X.K gAdd) := opr_mk fun pins s σ H x y v u Q H0 F m n d e I rx ry fz bs vx vy hp => by
  unfold gAdd at hp
  dsimp only at hp
  split at hp
  · rename_i a b
    exact op_add pins s σ H x y v u Q I rx ry ⟨a, b, vw_int vx, vw_int vy, sc_ok hp fz (.int _)⟩
  · rename_i a b
    obtain ⟨hz, hp⟩ := grd_post hp
    exact op_add_str pins s σ H x y v u Q I rx ry ⟨a, b, vw_str vx, vw_str vy, million' (of_decide_eq_true hz), sc_ok hp fz (.str _)⟩
  · rename_i a b
    obtain ⟨hz, hp⟩ := grd_post hp
    have hz := of_decide_eq_true hz
    obtain ⟨p, xs, rfl, hs, ha⟩ := vw_list fz vx
    obtain ⟨q, ys, rfl, ht, hb⟩ := vw_list fz vy
    cases rx
    cases ry
    obtain ⟨its, r1, p1, _⟩ := I.list hs
    obtain ⟨its2, r2, p2, _⟩ := I.list ht
    have hlen : xs.length + ys.length ≤ sizeLine := by rw [ha.length, hb.length]; exact million' hz
    refine cat_lists p1 p2 (by rw [← r1.length, ← r2.length]; exact hlen) ?_
    have hf : H s.heap.objs.size = none := I.fresh
    exact ⟨.ref _, _, I.lnew (t' := s.toks) (r1.append r2) (by rw [List.length_append]; exact hlen), rfl, hp _ F _ (Ext.allocH fz hf) ⟨_, _, rfl, hf, same_none fz hf, upd_same, (ha.le1).append (hb.le (le_and' (Same.refl F)))⟩⟩
  · rename_i a b
    obtain ⟨hz, hp⟩ := grd_post hp
    have hz := of_decide_eq_true hz
    obtain ⟨p, xs, rfl, hs0, hs, ha⟩ := vw_tup fz vx
    obtain ⟨q, ys, rfl, ht0, ht, hb⟩ := vw_tup fz vy
    have hA : IsA X.K H0 (m && n) F xs a := ha.le1
    have hB : IsA X.K H0 (m && n) F ys b := hb.le (le_and' (Same.refl F))
    refine op_catZ pins s σ H _ _ v u Q I rx ry ⟨p, q, xs, ys, rfl, rfl, hs, ht, by rw [ha.length, hb.length]; exact million' hz, fun e0 => ?_, fun _ e0 => ?_, fun _ _ r ob hr hob => ?_⟩
    · subst e0
      have : a = [] := by cases ha; rfl
      subst this
      exact hp _ F H (Ext.refl fz) (.tup ht0 hB)
    · subst e0
      have : b = [] := by cases hb; rfl
      subst this
      rw [List.append_nil] at hp
      exact hp _ F H (Ext.refl fz) (.tup hs0 hA)
    · exact hp _ (upd F r (tupZ ob (xs ++ ys))) _ (Ext.alloc fz hr) (.tup (.new hob) ((hA.append hB).to (same_new (same_none fz hr))))
  · exact hp.elim
theorem gAdd_no : ∀ p q, Nx (gAdd p q) := fun p q => by
  unfold gAdd; (repeat' (first | exact trivial | (refine grd_no ?_) | split))
def gI (c : Int → Int → Bool) (f : Int → Int → PyData) : G2 := fun p q => match p.2, q.2 with
  | .int a, .int b => grd (c a b) (sc (f a b))
  | _, _ => .bad
theorem gI_no {c : Int → Int → Bool} {f : Int → Int → PyData} : ∀ p q, Nx (gI c f p q) := fun p q => by
  unfold gI; (repeat' (first | exact trivial | (refine grd_no ?_) | split))
theorem opI_of {fv : Value → Value → Sem Value} {C : Int → Int → Prop} {g : Int → Int → V} {c : Int → Int → Bool} {f : Int → Int → PyData} (h : OpR X fv (rI C g)) (hc : ∀ a b, c a b = true → C a b) (hf : ∀ (K : PySem.W.Frag) (H0 F : Hp) (a b : Int), Is K H0 true F (g a b) (f a b)) : OpR X fv (rG2 X.K (gI c f)) :=
  opr_mk fun pins s σ H x y v u Q H0 F m n d e I rx ry fz bs vx vy hp => by
    unfold gI at hp
    dsimp only at hp
    split at hp
    · rename_i a b
      obtain ⟨hz, hp⟩ := grd_post hp
      exact h pins s σ H x y v u Q I rx ry ⟨a, b, vw_int vx, vw_int vy, hc a b hz, sc_ok hp fz (hf _ _ _ _ _)⟩
    · exact hp.elim
theorem opI0_of {fv : Value → Value → Sem Value} {g : Int → Int → V} {f : Int → Int → PyData} (h : OpR X fv (rI0 g)) (hf : ∀ (K : PySem.W.Frag) (H0 F : Hp) (a b : Int), Is K H0 true F (g a b) (f a b)) : OpR X fv (rG2 X.K (gI (fun _ _ => true) f)) :=
  opI_of (C := fun _ _ => True) (opr_le h fun x y H Q ⟨i, j, h1, h2, _, q⟩ => ⟨i, j, h1, h2, q⟩) (fun _ _ _ => True.intro) hf
def cMul (a b : Int) : Bool := (decide (-(2 ^ 64) < a) && decide (a < 2 ^ 64)) || (decide (-(2 ^ 64) < b) && decide (b < 2 ^ 64))
def cPos (_ b : Int) : Bool := decide (0 < b)
def cDiv (_ b : Int) : Bool := decide (0 < b) && decide (b < 1073741824)
def cPow (a b : Int) : Bool := decide (0 ≤ b) && decide (b ≤ 1000) && decide (a.natAbs < 2 ^ 64)
abbrev gMod : G2 := gI cPos fun a b => .int (a % b)
abbrev gFdv : G2 := gI cDiv fun a b => .int (a / b)
abbrev gPow : G2 := gI cPow fun a b => .int (a ^ b.toNat)
abbrev gLt : G2 := gI (fun _ _ => true) fun a b => .bool (decide (a < b))
abbrev gLe : G2 := gI (fun _ _ => true) fun a b => .bool (decide (a ≤ b))
abbrev gGt : G2 := gI (fun _ _ => true) fun a b => .bool (decide (b < a))
abbrev gGe : G2 := gI (fun _ _ => true) fun a b => .bool (decide (b ≤ a))
theorem op_gMod : OpR X (binaryOp .Mod) (rG2 X.K gMod) := opI_of op_mod (fun a b h => of_decide_eq_true h) fun _ _ _ _ _ => .int _
theorem op_gFdv : OpR X (binaryOp .FloorDiv) (rG2 X.K gFdv) := opI_of op_fdiv (fun a b h => by
  unfold cDiv at h
  rw [Bool.and_eq_true, decide_eq_true_iff, decide_eq_true_iff] at h
  exact h) fun _ _ _ _ _ => .int _
theorem op_gPow : OpR X (binaryOp .Pow) (rG2 X.K gPow) := opI_of op_pow (fun a b h => by
  unfold cPow at h
  rw [Bool.and_eq_true, Bool.and_eq_true, decide_eq_true_iff, decide_eq_true_iff, decide_eq_true_iff] at h
  exact ⟨h.1.1, by omega, h.2⟩) fun _ _ _ _ _ => .int _
theorem op_gLt : OpR X (compareOp .Lt) (rG2 X.K gLt) := opI0_of op_lt fun _ _ _ _ _ => .bl _
theorem op_gLe : OpR X (compareOp .LtE) (rG2 X.K gLe) := opI0_of op_le fun _ _ _ _ _ => .bl _
theorem op_gGt : OpR X (compareOp .Gt) (rG2 X.K gGt) := opI0_of op_gt fun _ _ _ _ _ => .bl _
theorem op_gGe : OpR X (compareOp .GtE) (rG2 X.K gGe) := opI0_of op_ge fun _ _ _ _ _ => .bl _
def gMul : G2 := fun p q => match p.2, q.2 with
  | .int a, .int b => grd (cMul a b) (sc (.int (a * b)))
  | _, _ => .bad
theorem gMul_no : ∀ p q, Nx (gMul p q) := fun p q => by
  unfold gMul; (repeat' (first | exact trivial | (refine grd_no ?_) | split))
theorem op_gMul : OpR X (binaryOp .Mult) (rG2 X.K gMul) := opr_le (opI_of (c := cMul) (f := fun a b => .int (a * b)) op_mul (fun a b h => by
  unfold cMul at h
  rw [Bool.or_eq_true, Bool.and_eq_true, Bool.and_eq_true, decide_eq_true_iff, decide_eq_true_iff, decide_eq_true_iff, decide_eq_true_iff] at h
  exact h) fun _ _ _ _ _ => .int _) fun x y H Q q => by
    have e : gMul = gI cMul fun a b => .int (a * b) := rfl
    rw [← e]; exact q
def eqB : PyData → PyData → Option Bool
  | .int a, .int b => some (decide (a = b))
  | .str a, .str b => some (decide (a = b))
  | .bool a, .bool b => some (decide (a = b))
  | .none, .none => some true
  | .none, .int _ => some false
  | .int _, .none => some false
  | d, e => if SeqAt.shaped d && SeqAt.shaped e then some (PyData.eqv d e) else none
def gEqN (neg : Bool) : G2 := fun p q => match eqB p.2 q.2 with
  | some b => sc (.bool (if neg = true then !b else b))
  | none => .bad
theorem gEqN_no {neg : Bool} : ∀ p q, Nx (gEqN neg p q) := fun p q => by
  unfold gEqN; (repeat' (first | exact trivial | (refine grd_no ?_) | split))
theorem op_gEq (hu : X.A.units + 64 < cLine) : OpR X (compareOp .Eq) (rG2 X.K (gEqN false)) := opr_mk fun pins s σ H x y v u Q H0 F m n d e I rx ry fz bs vx vy hp => by
  have fin : ∀ b, eqB d e = some b → (x = y ↔ b = true) → scal x y = true → wpAny (model X.prog X.w) X.A (compareOp .Eq v u) (EP X pins σ Q) X.xe s := fun b hb he hs => by
    unfold gEqN at hp
    dsimp only at hp
    rw [hb] at hp
    refine op_eq pins s σ H x y v u Q I rx ry ⟨hs, ?_⟩
    have : decide (x = y) = b := by
      cases b with
      | true => exact decide_eq_true (he.mpr rfl)
      | false => exact decide_eq_false fun z => Bool.false_ne_true (he.mp z)
    rw [this]
    exact sc_ok hp fz (.bl _)
  have deep : ∀ b, eqB d e = some b → SeqAt.shaped d = true → SeqAt.shaped e = true → PyData.eqv d e = b → wpAny (model X.prog X.w) X.A (compareOp .Eq v u) (EP X pins σ Q) X.xe s := fun b hb h1 h2 h3 => by
    unfold gEqN at hp
    dsimp only at hp
    rw [hb] at hp
    refine op_eqD hu pins s σ H x y v u Q I rx ry ⟨d, e, vw_dp fz vx (SeqAt.canLay_of_shaped h1), vw_dp fz vy (SeqAt.canLay_of_shaped h2), h1, h2, ?_⟩
    rw [h3]
    exact sc_ok hp fz (.bl _)
  cases hq : eqB d e with
  | none =>
    unfold gEqN at hp
    dsimp only at hp
    rw [hq] at hp
    exact hp.elim
  | some b =>
    unfold eqB at hq
    split at hq
    · cases hq
      have h1 := vw_int vx; have h2 := vw_int vy
      subst h1 h2
      exact fin _ rfl (by simp) rfl
    · cases hq
      have h1 := vw_str vx; have h2 := vw_str vy
      subst h1 h2
      exact fin _ rfl (by simp) rfl
    · cases hq
      have h1 := vw_bool vx; have h2 := vw_bool vy
      subst h1 h2
      exact fin _ rfl (by simp) rfl
    · cases hq
      have h1 := vw_none vx; have h2 := vw_none vy
      subst h1 h2
      exact fin _ rfl (by simp) rfl
    · cases hq
      have h1 := vw_none vx; have h2 := vw_int vy
      subst h1 h2
      exact fin _ rfl (by simp) rfl
    · cases hq
      have h1 := vw_int vx; have h2 := vw_none vy
      subst h1 h2
      exact fin _ rfl (by simp) rfl
    · rename_i n1 n2 n3 n4 n5 n6
      by_cases hz : (SeqAt.shaped d && SeqAt.shaped e) = true
      · rw [if_pos hz] at hq
        obtain ⟨z1, z2⟩ := Bool.and_eq_true_iff.mp hz
        refine deep b ?_ z1 z2 (Option.some.inj hq)
        unfold eqB
        split
        · exact absurd rfl (n1 _ _ rfl)
        · exact absurd rfl (n2 _ _ rfl)
        · exact absurd rfl (n3 _ _ rfl)
        · exact absurd rfl (n4 rfl)
        · exact absurd rfl (n5 _ rfl)
        · exact absurd rfl (n6 _ rfl)
        · rw [if_pos hz]; exact hq
      · rw [if_neg hz] at hq; cases hq
end
end Dn
namespace Dn
open PySem PySem.Spec L2 A1 A2 A3
section
variable {X : Cx}
theorem op_gNe (hu : X.A.units + 64 < cLine) : OpR X (compareOp .NotEq) (rG2 X.K (gEqN true)) := opr_mk fun pins s σ H x y v u Q H0 F m n d e I rx ry fz bs vx vy hp => by
  have fin : ∀ b, eqB d e = some b → (x = y ↔ b = true) → scal x y = true → wpAny (model X.prog X.w) X.A (compareOp .NotEq v u) (EP X pins σ Q) X.xe s := fun b hb he hs => by
    unfold gEqN at hp
    dsimp only at hp
    rw [hb] at hp
    refine op_ne pins s σ H x y v u Q I rx ry ⟨hs, ?_⟩
    have : decide (x = y) = b := by
      cases b with
      | true => exact decide_eq_true (he.mpr rfl)
      | false => exact decide_eq_false fun z => Bool.false_ne_true (he.mp z)
    rw [this]
    exact sc_ok hp fz (.bl _)
  have deep : ∀ b, eqB d e = some b → SeqAt.shaped d = true → SeqAt.shaped e = true → PyData.eqv d e = b → wpAny (model X.prog X.w) X.A (compareOp .NotEq v u) (EP X pins σ Q) X.xe s := fun b hb h1 h2 h3 => by
    unfold gEqN at hp
    dsimp only at hp
    rw [hb] at hp
    refine op_neD hu pins s σ H x y v u Q I rx ry ⟨d, e, vw_dp fz vx (SeqAt.canLay_of_shaped h1), vw_dp fz vy (SeqAt.canLay_of_shaped h2), h1, h2, ?_⟩
    rw [h3]
    exact sc_ok hp fz (.bl _)
  cases hq : eqB d e with
  | none =>
    unfold gEqN at hp
    dsimp only at hp
    rw [hq] at hp
    exact hp.elim
  | some b =>
    unfold eqB at hq
    split at hq
    · cases hq
      have h1 := vw_int vx; have h2 := vw_int vy
      subst h1 h2
      exact fin _ rfl (by simp) rfl
    · cases hq
      have h1 := vw_str vx; have h2 := vw_str vy
      subst h1 h2
      exact fin _ rfl (by simp) rfl
    · cases hq
      have h1 := vw_bool vx; have h2 := vw_bool vy
      subst h1 h2
      exact fin _ rfl (by simp) rfl
    · cases hq
      have h1 := vw_none vx; have h2 := vw_none vy
      subst h1 h2
      exact fin _ rfl (by simp) rfl
    · cases hq
      have h1 := vw_none vx; have h2 := vw_int vy
      subst h1 h2
      exact fin _ rfl (by simp) rfl
    · cases hq
      have h1 := vw_int vx; have h2 := vw_none vy
      subst h1 h2
      exact fin _ rfl (by simp) rfl
    · rename_i n1 n2 n3 n4 n5 n6
      by_cases hz : (SeqAt.shaped d && SeqAt.shaped e) = true
      · rw [if_pos hz] at hq
        obtain ⟨z1, z2⟩ := Bool.and_eq_true_iff.mp hz
        refine deep b ?_ z1 z2 (Option.some.inj hq)
        unfold eqB
        split
        · exact absurd rfl (n1 _ _ rfl)
        · exact absurd rfl (n2 _ _ rfl)
        · exact absurd rfl (n3 _ _ rfl)
        · exact absurd rfl (n4 rfl)
        · exact absurd rfl (n5 _ rfl)
        · exact absurd rfl (n6 _ rfl)
        · rw [if_pos hz]; exact hq
      · rw [if_neg hz] at hq; cases hq
def isNon : PyData → Bool
  | .none => true
  | _ => false
def gIxD (p q : Dv) : Rs R := match entsU p.2, entsK p.2 with
  | some es, _ => (match keyU q.2 with
    | some k => (match lookU es k with
      | some d => .ok (.sh (p.1 || atom d) d)
      | none => .bad)
    | none => .bad)
  | none, some es => (match keyK q.2 with
    | some k => (match lookK es k with
      | some d => .ok (.sh (p.1 || atom d) d)
      | none => .bad)
    | none => .bad)
  | none, none => .bad
theorem gIxD_no : ∀ p q, Nx (gIxD p q) := fun p q => by
  unfold gIxD; (repeat' (first | exact trivial | (refine grd_no ?_) | split))
theorem tail_dict {prog : Program} {w : World} {A : Around} {E : Value → Shared → Prop} {s : Shared} {value slice : Expr} {v u : Value} {Q : Value → Shared → Prop} (hT : s.TypeIs v "dict") (hs : subscripted slice false v u = operate [v, u] (getItem v u)) (h : wpAny (model prog w) A (getItem v u) Q E s) :
    wpAny (model prog w) A (PyProof.Rows.subscriptTail value slice v u) Q E s := by
  unfold PyProof.Rows.subscriptTail
  refine wpAny_bind ?_
  have nm := hT.not_modules
  rw [getitemInPython_of_ne nm]
  refine wpAny_bind (wpAny_specialOf hT PySem.F.slot_dict_getitem.lookup ?_)
  have fin : wpAny (model prog w) A (subscripted slice false v u) (fun r s3 => wpAny (model prog w) A (letTemporaryGo value v r >>= fun _ => pure r) Q E s3) E s := by
    rw [hs]
    exact wpAny_operating (wpAny_mono h (fun r s3 h3 => wpAny_bind (wpAny_letTemporaryGo (wpAny_pure h3))) fun _ _ x => x)
  first | exact wpAny_pure (wpAny_bind fin) | exact wpAny_bind (wpAny_pure (wpAny_bind fin)) | exact wpAny_bind fin
def gIx : G2 := fun p q => match p.2, q.2 with
  | .list ds, .int i => match atI ds i with
    | some d => .ok (.sh (p.1 || atom d) d)
    | none => .bad
  | .tuple ds, .int i => match atI ds i with
    | some d => .ok (.sh (p.1 || atom d) d)
    | none => .bad
  | .str x, .int i => match atI x.cps.toList i with
    | some c => grd (decide (x.length ≤ 1000000)) (sc (.str ⟨#[c]⟩))
    | none => .bad
  | .dict _, _ => gIxD p q
  | _, _ => .bad
theorem gIx_no : ∀ p q, Nx (gIx p q) := fun p q => by
  unfold gIx; (repeat' (first | exact trivial | (refine grd_no ?_) | (exact gIxD_no _ _) | split))
theorem atI_get {K : PySem.W.Frag} {H0 F : Hp} {n : Bool} {xs : List V} {ds : List PyData} {i : Int} {d : PyData} (h : IsA K H0 n F xs ds) (e : atI ds i = some d) : ∃ v, atI xs i = some v ∧ Is K H0 n F v d := by
  unfold atI at e ⊢
  rw [← h.length] at e
  cases q : ixN xs.length i with
  | none => rw [q] at e; cases e
  | some j =>
    rw [q] at e
    obtain ⟨v, h1, h2⟩ := h.get (i := j) (d := d) e
    exact ⟨v, h1, h2⟩
theorem ix_g (hu : X.A.units + 64 < cLine) : IxR X (rG2 X.K gIx) := fun value slice pins s σ H x y v u Q I rx ry ⟨H0, F, p, q, fz, bs, vx, vy, hp⟩ hs => by
  obtain ⟨m, d⟩ := p
  obtain ⟨n, e⟩ := q
  unfold gIx at hp
  dsimp only at hp
  split at hp
  · rename_i ds i
    obtain ⟨a, xs, rfl, h1, h2⟩ := vw_list fz vx
    split at hp
    · rename_i d hd
      obtain ⟨w, h3, h4⟩ := atI_get h2 hd
      exact ix_list value slice pins s σ H _ y v u Q I rx ry ⟨a, xs, i, w, rfl, vw_int vy, h1, h3, hp w F H (Ext.refl fz) (h4.orAtom (Same.refl F))⟩ hs
    · exact hp.elim
  · rename_i ds i
    obtain ⟨a, xs, rfl, _, h1, h2⟩ := vw_tup fz vx
    split at hp
    · rename_i d hd
      obtain ⟨w, h3, h4⟩ := atI_get h2 hd
      exact ix_tup value slice pins s σ H _ y v u Q I rx ry ⟨a, xs, i, w, rfl, vw_int vy, h1, h3, hp w F H (Ext.refl fz) (h4.orAtom (Same.refl F))⟩ hs
    · exact hp.elim
  · rename_i z i
    split at hp
    · rename_i c hc
      obtain ⟨hz, hp⟩ := grd_post hp
      exact ix_str value slice pins s σ H x y v u Q I rx ry ⟨z, i, c, vw_str vx, vw_int vy, million' (of_decide_eq_true hz), hc, sc_ok hp fz (.str _)⟩ hs
    · exact hp.elim
  · rename_i dd e
    unfold gIxD at hp
    dsimp only at hp
    split at hp
    · rename_i es _ h1
      split at hp
      · rename_i k h2
        obtain ⟨a, xs, rfl, h3, h4⟩ := vw_ents vx h1
        obtain ⟨b, rfl, nk⟩ := nk_tup fz vy h2
        obtain ⟨z, lo, dd⟩ := dN_rd I.hok (same_rd fz h3) (h4.depth fz)
        cases rx
        cases ry
        split at hp
        · rename_i d hd
          rcases h4.at (k := k) with ⟨b2, u2, y, d2, g1, g2, g3, g4⟩ | ⟨_, g2⟩
          · rw [hd] at g2
            cases g2
            refine tail_dict dd.typeIs hs (wpAny_getItem_heap (knd := nestedKind X.prog X.w) (show X.A.units + 1 + 8 < cLine by omega) ⟨nk_is I.hok nk rfl, (keyU_some h2).2.1⟩ dd g1 ⟨y, H, I.tok _, g3, hp y F H (Ext.refl fz) (g4.orAtom (Same.refl F))⟩)
          · rw [hd] at g2; cases g2
        · exact hp.elim
      · exact hp.elim
    · rename_i es _ h1
      split at hp
      · rename_i k h2
        split at hp
        · rename_i d hd
          have e0 := entsK_some h1
          cases e0
          obtain ⟨a, o, kvs, rfl, h3, h4, h5⟩ := is_kl (vw_dict vx)
          have ey := keyK_val vy h2
          subst ey
          rcases kl_at (k := k) h4 h5 with ⟨y, d2, g1, g2, g3⟩ | ⟨_, g2⟩
          · rw [hd] at g2
            cases g2
            have dg : DGet H a (kV k) (some y) := .inl ⟨kvs, k, .inr ⟨o, fz _ _ h3⟩, rfl, g1.symm⟩
            cases rx
            exact tail_dict (dict_typeIs I dg) hs (d_getItem (by omega) I dg ry fun w' s' I' r' => ⟨y, H, I', r', hp y F H (Ext.refl fz) (g3.orAtom (Same.refl F))⟩)
          · rw [hd] at g2; cases g2
        · exact hp.elim
      · exact hp.elim
    · exact hp.elim
  · exact hp.elim
variable {W : WX} {x : Str} {p pos : PySem.Pos} {e : Expr} {es : List Expr} {fa : FA} {id T : String} {g : GN}
def fB1 (g : GN) (fa : FA) : FE := fun env => (fa env).bind fun p => (g p.2).bind fun r => .ok (p.1, r)
theorem callb {fa : FA} {g : GN} {σ : St} {H : Hp} {Q : VK} (hg : ∀ p, Nx (g p)) (h : tE X.K X.mg W (fB1 g fa) σ H Q) : tCB (rGN X.K g) (tAV X.K X.mg W fa) σ H Q := by
  obtain ⟨H0, F0, F, env, r, h⟩ := h
  refine ⟨H0, F0, F, env, r, ?_⟩
  unfold fB1 at h
  refine Rs.post_mono (Rs.post_bind.mp h) (fun p hp v F1 H1 r1 v1 e1 e2 => ?_) fun _ _ x => x
  refine ⟨H0, F1, p.2, r1.fz, r1.base, v1, ?_⟩
  have hp := Rs.post_bind.mp hp
  cases z : g p.2 with
  | bad => rw [z] at hp; exact hp.elim
  | ex e x => have y := hg p.2; rw [z] at y; exact y.elim
  | ch m f => have y := hg p.2; rw [z] at y; exact y.elim
  | ok res =>
    rw [z] at hp
    exact fun w F' H' ex hv => hp w F' H' (hv.rel r1 ex) (e1.trans ex.h) (e2.trans ex.f)
theorem d_b (hc : CallR X (.builtin id) (rGN X.K g)) (hgn : ∀ p, Nx (g p)) (hg : Gl X x) (hm : X.mg x = none) (hv : bootBuiltins x = some (.builtin id)) (ha : DAV X W (e :: es) fa) (hn : x ≠ "__name__" := by decide) (hdb : (x == ("__debug__" : Str)) = false := by decide)
    (he : starEach (e :: es) X.env = (false, eval e X.env) :: starEach es X.env := by rfl) (hpl : (backTo pos (starEach es X.env)).any (·.1) = false := by rfl) : DE X W (.Call (.Name x p) (e :: es) [] pos) (fB1 g fa) :=
  pe_le (pe_callB hc hg hm hv ha hn hdb he hpl) fun σ H Q q => callb hgn q
theorem d_ty (hc : CallR X (.type T) (rGN X.K g)) (hgn : ∀ p, Nx (g p)) (hg : Gl X x) (hm : X.mg x = none) (hv : bootBuiltins x = some (.type T)) (ha : DAV X W (e :: es) fa) (hn : x ≠ "__name__" := by decide) (hdb : (x == ("__debug__" : Str)) = false := by decide)
    (he : starEach (e :: es) X.env = (false, eval e X.env) :: starEach es X.env := by rfl) (hpl : (backTo pos (starEach es X.env)).any (·.1) = false := by rfl) : DE X W (.Call (.Name x p) (e :: es) [] pos) (fB1 g fa) :=
  pe_le (pe_callTy hc hg hm hv ha hn hdb he hpl) fun σ H Q q => callb hgn q
def g1 (f : Dv → Rs R) : GN := fun ps => match ps with
  | [p] => f p
  | _ => .bad
theorem g1_no {f : Dv → Rs R} (h : ∀ p, Nx (f p)) : ∀ ps, Nx (g1 f ps) := fun ps => by
  unfold g1
  split
  · exact h _
  · exact trivial
theorem callr1 {fv : Value} {f : Dv → Rs R} (h : ∀ (pins : List (Addr × Obj)) (s : Shared) (σ : St) (H : Hp) (x : V) (u : Value) (Q : VK) (H0 F : Hp) (n : Bool) (d : PyData), L2.Inv X pins σ H s → RelV x u → Sg F H → Sm H0 H → Vw X.K H0 F H x (n, d) →
    (f (n, d)).post (fun res => ∀ v F' H', Ext F H F' H' → VRes X.K H0 H F' H' v res → Q v H') (fun _ _ => False) → wpAny (model X.prog X.w) X.A (call fv [u]) (EP X pins σ Q) X.xe s) : CallR X fv (rGN X.K (g1 f)) := fun pins s σ H xs us Q I r hq => by
  obtain ⟨H0, F, ps, fz, bs, va, hp⟩ := hq
  unfold g1 at hp
  split at hp
  · rename_i p
    cases va with
    | cons h1 h2 =>
      cases h2
      cases r with
      | cons r1 r2 =>
        cases r2
        exact h pins s σ H _ _ Q H0 F p.1 p.2 I r1 fz bs h1 hp
  · exact hp.elim
def bLen (p : Dv) : Rs R := match p.2 with
  | .str x => grd (decide (x.length ≤ 1000000)) (sc (.int x.length))
  | .list ds => sc (.int ds.length)
  | .tuple ds => sc (.int ds.length)
  | _ => .bad
theorem bLen_no : ∀ p, Nx (bLen p) := fun p => by
  unfold bLen; (repeat' (first | exact trivial | (refine grd_no ?_) | (exact gIxD_no _ _) | split))
theorem cr_len : CallR X (.builtin "len") (rGN X.K (g1 bLen)) := callr1 fun pins s σ H x u Q H0 F n d I rx fz bs vx hp => by
  unfold bLen at hp
  dsimp only at hp
  split at hp
  · obtain ⟨hz, hp⟩ := grd_post hp
    obtain rfl := vw_str vx
    exact call_len pins s σ H _ _ Q I (.cons rx .nil) ⟨_, _, rfl, ⟨million' (of_decide_eq_true hz), rfl⟩, sc_ok hp fz (.int _)⟩
  · obtain ⟨a, xs, rfl, h1, h2⟩ := vw_list fz vx
    rw [← h2.length] at hp
    exact call_len pins s σ H _ _ Q I (.cons rx .nil) ⟨_, _, rfl, .inl ⟨xs, h1, rfl⟩, sc_ok hp fz (.int _)⟩
  · obtain ⟨a, xs, rfl, _, h1, h2⟩ := vw_tup fz vx
    rw [← h2.length] at hp
    exact call_len pins s σ H _ _ Q I (.cons rx .nil) ⟨_, _, rfl, .inr ⟨xs, h1, rfl⟩, sc_ok hp fz (.int _)⟩
  · exact hp.elim
def bInt (p : Dv) : Rs R := match p.2 with
  | .int i => sc (.int i)
  | .bool b => sc (.int (if b = true then 1 else 0))
  | _ => .bad
theorem bInt_no : ∀ p, Nx (bInt p) := fun p => by
  unfold bInt; (repeat' (first | exact trivial | (refine grd_no ?_) | (exact gIxD_no _ _) | split))
theorem cr_int : CallR X (.type "int") (rGN X.K (g1 bInt)) := callr1 fun pins s σ H x u Q H0 F n d I rx fz bs vx hp => by
  unfold bInt at hp
  dsimp only at hp
  split at hp
  · obtain rfl := vw_int vx
    exact call_int1 pins s σ H _ _ Q I (.cons rx .nil) (.inl ⟨_, rfl, sc_ok hp fz (.int _)⟩)
  · obtain rfl := vw_bool vx
    exact call_int1 pins s σ H _ _ Q I (.cons rx .nil) (.inr ⟨_, rfl, sc_ok hp fz (.int _)⟩)
  · exact hp.elim
def bStr (p : Dv) : Rs R := match p.2 with
  | .int i => grd (decide (i.natAbs < 2 ^ 60)) (sc (.str (Str.ofString (toString i))))
  | _ => .bad
theorem bStr_no : ∀ p, Nx (bStr p) := fun p => by
  unfold bStr; (repeat' (first | exact trivial | (refine grd_no ?_) | (exact gIxD_no _ _) | split))
theorem log60 {i : Int} (h : i.natAbs < 2 ^ 60) : i.natAbs.log2 < 1920 := by
  by_cases z : i.natAbs = 0
  · rw [z]; decide
  · exact Nat.lt_trans ((Nat.log2_lt z).mpr h) (by decide)
theorem cr_str : CallR X (.type "str") (rGN X.K (g1 bStr)) := callr1 fun pins s σ H x u Q H0 F n d I rx fz bs vx hp => by
  unfold bStr at hp
  dsimp only at hp
  split at hp
  · obtain ⟨hz, hp⟩ := grd_post hp
    obtain rfl := vw_int vx
    exact call_str_int pins s σ H _ _ Q I (.cons rx .nil) ⟨_, rfl, log60 (of_decide_eq_true hz), sc_ok hp fz (.str _)⟩
  · exact hp.elim
def reprOk (d : PyData) : Bool := PyData.canLay0 d && (PyData.showable d && (decide (d.depth ≤ 60) && decide (d.shown.length ≤ 1000000)))
def bRepr (p : Dv) : Rs R := match p.2 with
  | .list ds => grd (reprOk (.list ds)) (sc (.str (PyData.shown (.list ds))))
  | .tuple ds => grd (reprOk (.tuple ds)) (sc (.str (PyData.shown (.tuple ds))))
  | _ => .bad
theorem bRepr_no : ∀ p, Nx (bRepr p) := fun p => by
  unfold bRepr; (repeat' (first | exact trivial | (refine grd_no ?_) | split))
theorem cr_repr (hgd : X.A.guards = some []) (hu : X.A.units + 64 < cLine) : CallR X (.builtin "repr") (rGN X.K (g1 bRepr)) := callr1 fun pins s σ H x u Q H0 F n d I rx fz bs vx hp => by
  have key : ∀ (a : Addr), x = .ref a → reprOk d = true → (sc (.str d.shown)).post (fun res => ∀ v F' H', Ext F H F' H' → VRes X.K H0 H F' H' v res → Q v H') (fun _ _ => False) → wpAny (model X.prog X.w) X.A (call (.builtin "repr") [u]) (EP X pins σ Q) X.xe s := fun a e ok hq => by
    subst e
    unfold reprOk at ok
    rw [Bool.and_eq_true, Bool.and_eq_true, Bool.and_eq_true, decide_eq_true_iff, decide_eq_true_iff] at ok
    obtain ⟨o1, o2, o3, o4⟩ := ok
    obtain ⟨as, rd⟩ := Dp.reads I d _ _ (vw_dp fz vx o1) rx
    cases rx
    refine repr_of_reads' rd o2 (PyData.noDict_hsm (PyData.hasDict_of_canLay d o1)) hgd (by omega) (fun _ _ z => z) (fun h' tk tk' hk => ?_) (million' o4)
    exact ⟨.str d.shown, H, I.kept hk, ⟨_, rfl⟩, sc_ok hq fz (.str _)⟩
  unfold bRepr at hp
  dsimp only at hp
  split at hp
  · obtain ⟨ok, hp⟩ := grd_post hp
    obtain ⟨a, xs, e, _⟩ := vw_list fz vx
    exact key a e ok hp
  · obtain ⟨ok, hp⟩ := grd_post hp
    obtain ⟨a, xs, e, _⟩ := vw_tup fz vx
    exact key a e ok hp
  · exact hp.elim
end
end Dn
namespace Dn
open PySem PySem.Spec L2 A1 A2 A3
section
variable {X : Cx} {W : WX} {x : Str} {p pos : PySem.Pos} {e : Expr} {es : List Expr} {f : FE} {fa : FA}
def tyN : PyData → Option String
  | .none => some "NoneType"
  | .bool _ => some "bool"
  | .int _ => some "int"
  | .str _ => some "str"
  | .list _ => some "list"
  | .tuple _ => some "tuple"
  | .dict _ => none
def isT (T : String) (d : PyData) : Option Bool := match tyN d with
  | some t => kitB t T
  | none => none
theorem rd_ty {K : PySem.W.Frag} {H : Hp} {a : Addr} {xs : List V} (h : SqL K H a xs) : TyX K H (.ref a) (.type "list") := by
  rcases h with (h | ⟨o, h⟩) | ⟨o, its, n, h, hc, _⟩
  · exact .base (.lst h)
  · exact .base (.frz h)
  · exact .kList h hc
theorem rt_ty {K : PySem.W.Frag} {H : Hp} {a : Addr} {xs : List V} (h : SqT K H a xs) : TyX K H (.ref a) (.type "tuple") := by
  rcases h with (h | ⟨o, h⟩) | ⟨o, its, n, h, hc, _⟩
  · exact .base (.tup h)
  · exact .fTuple h
  · exact .kTuple h hc
theorem vw_ty {K : PySem.W.Frag} {H0 F H : Hp} {v : V} {q : Dv} {t : String} (fz : Sg F H) (h : Vw K H0 F H v q) (ht : tyN q.2 = some t) : TyX K H v (.type t) := by
  obtain ⟨n, d⟩ := q
  cases d with
  | none => cases ht; rw [vw_none h]; exact .base .non
  | bool b => cases ht; rw [vw_bool h]; exact .base (.bl b)
  | int i => cases ht; rw [vw_int h]; exact .base (.int i)
  | str y => cases ht; rw [vw_str h]; exact .base (.str y)
  | list ds => cases ht; obtain ⟨a, xs, rfl, h1, _⟩ := vw_list fz h; exact rd_ty h1
  | tuple ds => cases ht; obtain ⟨a, xs, rfl, _, h1, _⟩ := vw_tup fz h; exact rt_ty h1
  | dict _ => cases ht
def fIsi (T : String) (f : FV) : FE := fun env => (f env).bind fun q => match isT T q.2.2 with
  | some b => .ok (q.1, .sh true (.bool b))
  | none => .bad
theorem d_isi {T : String} {xT : Str} {pT : PySem.Pos} (hg : Gl X "isinstance") (hm : X.mg "isinstance" = none) (hv : bootBuiltins "isinstance" = some (.builtin "isinstance")) (hgT : Gl X xT) (hmT : X.mg xT = none) (hvT : bootBuiltins xT = some (.type T)) (h : DE X W e f)
    (hn : xT ≠ "__name__" := by decide) (hdb : (xT == ("__debug__" : Str)) = false := by decide) (h1 : starEach [e, .Name xT pT] X.env = (false, eval e X.env) :: starEach [.Name xT pT] X.env := by rfl) (h2 : starEach [.Name xT pT] X.env = (false, eval (.Name xT pT) X.env) :: starEach [] X.env := by rfl)
    (hpl : (backTo pos (starEach [.Name xT pT] X.env)).any (·.1) = false := by rfl) : DE X W (.Call (.Name "isinstance" p) [e, .Name xT pT] [] pos) (fIsi T (rd f)) :=
  pe_le (pe_callB call_isi hg hm hv (pa_cons h.v (pa_cons (pe_bltn (v := .ty T) hgT hmT hvT rfl hn hdb) pa_nil h2) h1) (by decide) (by decide) h1 hpl) fun σ H Q ⟨H0, F0, F, env, r, q⟩ => by
    refine ⟨H0, F0, F, env, r, ?_⟩
    unfold fIsi at q
    refine Rs.post_mono (Rs.post_bind.mp q) (fun p hp v F1 H1 r1 v1 e1 e2 => ?_) fun _ _ x => x
    split at hp
    · rename_i b hb
      unfold isT at hb
      split at hb
      · rename_i t ht
        exact ⟨v, .ty T, .type t, .type T, b, rfl, .ty T, vw_ty r1.fz v1 ht, kit_ty hb, hp _ F1 H1 ⟨r1, .bl b⟩ e1 e2⟩
      · cases hb
    · exact hp.elim
def fFmt (f : FV) : FV := fun env => (f env).bind fun q => match q.2.2 with
  | .str y => grd (decide (y.length ≤ 1000000)) (.ok (q.1, (true, .str y)))
  | .int i => grd (decide (i.natAbs < 2 ^ 60)) (.ok (q.1, (true, .str (Str.ofString (toString i)))))
  | _ => .bad
theorem v_fmt (h : DE X W e f) : DV X W (.FormattedValue e (-1) none pos) (fFmt (rd f)) := pe_le (pe_fmt h.v) fun σ H Q ⟨H0, F0, F, env, r, q⟩ => by
  refine ⟨H0, F0, F, env, r, ?_⟩
  unfold fFmt at q
  refine Rs.post_mono (Rs.post_bind.mp q) (fun p hp v F1 H1 r1 v1 e1 e2 => ?_) fun _ _ x => x
  obtain ⟨env', n, d⟩ := p
  dsimp only at hp v1
  split at hp
  · rename_i y
    obtain ⟨hz, hp⟩ := grd_post hp
    exact .inl ⟨y, vw_str v1, million' (of_decide_eq_true hz), hp _ F1 H1 r1 (.inl (.str y)) e1 e2⟩
  · rename_i i
    obtain ⟨hz, hp⟩ := grd_post hp
    exact .inr ⟨i, vw_int v1, log60 (of_decide_eq_true hz), hp _ F1 H1 r1 (.inl (.str _)) e1 e2⟩
  · exact hp.elim
def fJs : List FV → Str → Env → Rs (Env × Str)
  | [], acc, env => .ok (env, acc)
  | f :: fs, acc, env => (f env).bind fun q => match q.2.2 with
    | .str y => grd (decide ((acc ++ y).length ≤ 1000000)) (fJs fs (acc ++ y) q.1)
    | _ => .bad
inductive DJ (X : Cx) (W : WX) : List Expr → List FV → Prop where
  | nil : DJ X W [] []
  | cons {e : Expr} {es : List Expr} {f : FV} {fs : List FV} (h : DV X W e f) (t : DJ X W es fs) : DJ X W (e :: es) (f :: fs)
theorem DJ.pj {es : List Expr} {fs : List FV} (h : DJ X W es fs) : PJ X es (fs.map (tV X.K X.mg W)) := by
  induction h with
  | nil => exact .nil
  | cons h _ ih => exact .cons h ih
theorem js_le {H0 F0 F00 H00 : Hp} {σ : St} {Q : VK} : ∀ (fs : List FV) (acc : Str) (env : Env) (F H : Hp), Sm H00 H → Same F00 F → Rel X.K H0 F0 env σ F H →
    (fJs fs acc env).post (fun q => ∀ F' H', Rel X.K H0 F0 q.1 σ F' H' → Sm H00 H' → Same F00 F' → Q (.str q.2) H') (ExP X.K X.mg W H0 F0 F00 H00 σ) → tJs (fs.map (tV X.K X.mg W)) acc σ H fun out H1 => Q (.str out) H1
  | [], acc, env, F, H, k1, k2, r, h => h F H r k1 k2
  | f :: fs, acc, env, F, H, k1, k2, r, h => by
    refine ⟨H0, F0, F, env, r, ?_⟩
    unfold fJs at h
    refine Rs.post_mono (Rs.post_bind.mp h) (fun p hp v F1 H1 r1 v1 e1 e2 => ?_) fun _ _ x => x.to k2 k1
    obtain ⟨env', n, d⟩ := p
    dsimp only at hp v1
    split at hp
    · rename_i y
      obtain ⟨hz, hp⟩ := grd_post hp
      exact ⟨y, vw_str v1, million' (of_decide_eq_true hz), js_le fs (acc ++ y) env' F1 H1 (k1.trans e1) (k2.trans e2) r1 hp⟩
    · exact hp.elim
def fJoined (fs : List FV) : FE := fun env => (fJs fs Str.empty env).bind fun q => .ok (q.1, .sh true (.str q.2))
theorem d_joined {v1 v2 : Expr} {rest : List Expr} {fs : List FV} (h : DJ X W (v1 :: v2 :: rest) fs) : DE X W (.JoinedStr (v1 :: v2 :: rest) pos) (fJoined fs) :=
  pe_le (pe_joined h.pj) fun σ H Q ⟨H0, F0, F, env, r, q⟩ => by
    unfold fJoined at q
    exact js_le fs Str.empty env F H (Sm.refl H) (Same.refl F) r (Rs.post_mono (Rs.post_bind.mp q) (fun p hp F' H' r' e1 e2 => hp _ F' H' ⟨r', .str _⟩ e1 e2) fun _ _ x => x)
def strsOf : List PyData → Option (List Str)
  | [] => some []
  | .str x :: ds => (strsOf ds).map (x :: ·)
  | _ => none
theorem strs_is {K : PySem.W.Frag} {H0 F : Hp} {n : Bool} : ∀ {ds : List PyData} {xs : List V} {ys : List Str}, IsA K H0 n F xs ds → strsOf ds = some ys → xs = ys.map V.str
  | _, _, _, .nil, e => by cases e; rfl
  | _, _, _, .cons h t, e => by
    cases h with
    | str x =>
      unfold strsOf at e
      cases q : strsOf _ with
      | none => rw [q] at e; cases e
      | some zs =>
        rw [q] at e
        cases e
        rw [strs_is t q]; rfl
    | _ => cases e
def seqOf : PyData → Option (List PyData)
  | .list ds => some ds
  | .tuple ds => some ds
  | _ => none
theorem vw_seq {K : PySem.W.Frag} {H0 F H : Hp} {v : V} {n : Bool} {d : PyData} {ds : List PyData} (fz : Sg F H) (h : Vw K H0 F H v (n, d)) (hs : seqOf d = some ds) : ∃ a xs, v = .ref a ∧ (SqL K H a xs ∨ SqT K H a xs) ∧ IsA K H0 n F xs ds := by
  cases d with
  | list es => cases hs; obtain ⟨a, xs, h1, h2, h3⟩ := vw_list fz h; exact ⟨a, xs, h1, .inl h2, h3⟩
  | tuple es => cases hs; obtain ⟨a, xs, h1, _, h2, h3⟩ := vw_tup fz h; exact ⟨a, xs, h1, .inr h2, h3⟩
  | _ => cases hs
def gJoin (a : Str) (d : PyData) : Option Str := match seqOf d with
  | some ds => match strsOf ds with
    | some ys => if (ys.map (·.length)).sum + ys.length * a.length ≤ 1000000 then some (Txt.join a ys) else none
    | none => none
  | none => none
def fJoin (fo f : FV) : FE := fun env => (fo env).bind fun q => match q.2.2 with
  | .str a => (f q.1).bind fun r => match gJoin a r.2.2 with
    | some z => .ok (r.1, .sh true (.str z))
    | none => .bad
  | _ => .bad
theorem d_join {o : Expr} {fo : FE} {apos : PySem.Pos} (ho : DE X W o fo) (h : DE X W e f) (h1 : starEach [e] X.env = [(false, eval e X.env)] := by rfl) (h2 : attributeBase o "join" X.env (eval o X.env) = eval o X.env := by rfl) (h3 : (apos.endLine == pos.line) = true := by rfl) :
    DE X W (.Call (.Attribute o "join" apos) [e] [] pos) (fJoin (rd fo) (rd f)) := pe_le (pe_join ho.v h.v h1 h2 h3) fun σ H Q ⟨H0, F0, F, env, r, q⟩ => by
  refine ⟨H0, F0, F, env, r, ?_⟩
  unfold fJoin at q
  refine Rs.post_mono (Rs.post_bind.mp q) (fun p hp v F1 H1 r1 v1 e1 e2 => ?_) fun _ _ x => x
  obtain ⟨env1, n, d⟩ := p
  dsimp only at hp v1
  split at hp
  · rename_i a
    refine ⟨⟨a, vw_str v1⟩, H0, F0, F1, env1, r1, ?_⟩
    refine Rs.post_mono (Rs.post_bind.mp hp) (fun p2 hp2 u F2 H2 r2 v2 e3 e4 => ?_) fun _ _ x => x.to e2 e1
    obtain ⟨env2, m, d2⟩ := p2
    dsimp only at hp2 v2
    split at hp2
    · rename_i z hz
      unfold gJoin at hz
      split at hz
      · rename_i ds hds
        split at hz
        · rename_i ys hys
          split at hz
          · rename_i hb
            cases hz
            obtain ⟨b, xs, rfl, h4, h5⟩ := vw_seq r2.fz v2 hds
            have := strs_is h5 hys
            subst this
            exact ⟨a, b, ys, vw_str v1, rfl, h4, Nat.le_trans hb (by decide), hp2 _ F2 H2 ⟨r2, .str _⟩ (e1.trans e3) (e2.trans e4)⟩
          · cases hz
        · cases hz
      · cases hz
    · exact hp2.elim
  · exact hp.elim
abbrev FO := Env → Rs (Env × Option Int)
def tOo (K : PySem.W.Frag) (mg : Str → Option Value) (W : WX) (f : FO) : TO := fun σ H Q => ∃ H0 F0 F env, Rel K H0 F0 env σ F H ∧
  (f env).post (fun p => ∀ F' H', Rel K H0 F0 p.1 σ F' H' → Sm H H' → Same F F' → Q p.2 H') (ExP K mg W H0 F0 F H σ)
def fNo : FO := fun env => .ok (env, none)
def fPart (f : FV) : FO := fun env => (f env).bind fun q => match q.2.2 with
  | .int i => .ok (q.1, some i)
  | _ => .bad
abbrev DO (X : Cx) (W : WX) (e : Option Expr) (f : FO) : Prop := PO X e (tOo X.K X.mg W f)
theorem po_le {e : Option Expr} {t t' : TO} (h : PO X e t) (l : ∀ σ H Q, t' σ H Q → t σ H Q) : PO X e t' := ⟨fun pins s σ H Q I q => h.run pins s σ H Q I (l σ H Q q)⟩
theorem o_none : DO X W none fNo := po_le po_none fun σ H Q ⟨H0, F0, F, env, r, q⟩ => q F H r (Sm.refl H) (Same.refl F)
theorem o_some (h : DE X W e f) : DO X W (some e) (fPart (rd f)) := po_le (po_some h.v) fun σ H Q ⟨H0, F0, F, env, r, q⟩ => by
  refine ⟨H0, F0, F, env, r, ?_⟩
  unfold fPart at q
  refine Rs.post_mono (Rs.post_bind.mp q) (fun p hp v F1 H1 r1 v1 e1 e2 => ?_) fun _ _ x => x
  obtain ⟨env1, n, d⟩ := p
  dsimp only at hp v1
  split at hp
  · rename_i i
    exact ⟨i, vw_int v1, hp F1 H1 r1 e1 e2⟩
  · exact hp.elim
def cutD {α : Type} (xs : List α) (lo hi : Option Int) : List α := (xs.drop (HT.sIx xs.length 0 lo)).take (HT.sIx xs.length xs.length hi - HT.sIx xs.length 0 lo)
def gSl (q : Dv) (lo hi : Option Int) : Rs R := match q.2 with
  | .list ds => .ok (.nw q.1 (cutD ds lo hi))
  | .tuple ds => .ok (.sh q.1 (.tuple (cutD ds lo hi)))
  | .str z => grd (decide (z.length ≤ 1000000)) (sc (.str (cutS z lo hi)))
  | _ => .bad
def rGS (K : PySem.W.Frag) : V → Option Int → Option Int → Hp → VK → Prop := fun x lo hi H Q => ∃ H0 F q, Sg F H ∧ Sm H0 H ∧ Vw K H0 F H x q ∧ (gSl q lo hi).post (fun res => ∀ v F' H', Ext F H F' H' → VRes K H0 H F' H' v res → Q v H') (fun _ _ => False)
theorem cutD_is {K : PySem.W.Frag} {H0 F : Hp} {n : Bool} {xs : List V} {ds : List PyData} (h : IsA K H0 n F xs ds) (lo hi : Option Int) : IsA K H0 n F (cutV xs lo hi) (cutD ds lo hi) := by
  unfold cutV cutD
  rw [h.length]
  exact (h.drop _).take _
def rSlZ (K : PySem.W.Frag) : V → Option Int → Option Int → Hp → VK → Prop := fun x lo hi H Q => ∃ a xs, x = .ref a ∧ SqT K H a xs ∧
  (HT.sIx xs.length 0 lo = 0 ∧ HT.sIx xs.length xs.length hi = xs.length → Q (.ref a) H) ∧ (¬ (HT.sIx xs.length 0 lo = 0 ∧ HT.sIx xs.length xs.length hi = xs.length) → ∀ p o, H p = none → o.dict = none → Q (.ref p) (upd H p (tupZ o (cutV xs lo hi))))
theorem sl_tupZ : SlR X (rSlZ X.K) := by
  intro pins s σ H x v vl vu lo hi sl Q I rx hs pl pu h
  obtain ⟨a, xs, rfl, hx, q1, q2⟩ := h
  cases rx
  obtain ⟨its, r, ht, hz⟩ := I.tuple hx
  have hlen : its.toArray.size = xs.length := by rw [List.size_toArray]; exact r.length.symm
  refine ⟨"tuple", _, PyProof.Rows.slot_tuple_getitem.lookup, ht.typeIs, ?_⟩
  by_cases hw : HT.sIx xs.length 0 lo = 0 ∧ HT.sIx xs.length xs.length hi = xs.length
  · exact getItem_tuple_whole ht hs pl pu (by rw [hlen]; exact hw) ⟨.ref a, H, I, rfl, q1 hw⟩
  · refine HT.getItem_tuple_cut ht hs pl pu (by rw [hlen]; exact hw) ?_ (by rw [hlen]; exact hz)
    rw [hlen]
    exact ⟨.ref s.heap.objs.size, _, Inv.laidZ (t' := s.toks) I ((r.drop (HT.sIx xs.length 0 lo)).take (HT.sIx xs.length xs.length hi - HT.sIx xs.length 0 lo)) (Nat.le_trans (cutV_length xs lo hi) hz), rfl, q2 hw _ _ (I.hok.fresh (Nat.le_refl _)) rfl⟩
theorem sl_g : SlR X (rGS X.K) := fun pins s σ H x v vl vu lo hi sl Q I rx hs pl pu ⟨H0, F, q, fz, bs, vx, hp⟩ => by
  obtain ⟨n, d⟩ := q
  unfold gSl at hp
  dsimp only at hp
  split at hp
  · obtain ⟨a, xs, rfl, h1, h2⟩ := vw_list fz vx
    exact sl_list pins s σ H _ v vl vu lo hi sl Q I rx hs pl pu ⟨a, xs, rfl, h1, fun r hr => hp _ F _ (Ext.allocH fz hr) ⟨_, _, rfl, hr, same_none fz hr, upd_same, cutD_is h2 lo hi⟩⟩
  · rename_i ds
    obtain ⟨a, xs, rfl, h0, h1, h2⟩ := vw_tup fz vx
    refine sl_tupZ pins s σ H _ v vl vu lo hi sl Q I rx hs pl pu ⟨a, xs, rfl, h1, fun hw => ?_, fun hw r ob hr hob => ?_⟩
    · have : cutD ds lo hi = ds := by
        unfold cutD
        rw [← h2.length, hw.1, hw.2, h2.length]
        simp
      rw [this] at hp
      exact hp _ F H (Ext.refl fz) (.tup h0 h2)
    · exact hp _ (upd F r (tupZ ob (cutV xs lo hi))) _ (Ext.alloc fz hr) (.tup (.new hob) ((cutD_is h2 lo hi).to (same_new (same_none fz hr))))
  · rename_i z
    obtain ⟨hz, hp⟩ := grd_post hp
    exact sl_str pins s σ H x v vl vu lo hi sl Q I rx hs pl pu ⟨z, vw_str vx, million' (of_decide_eq_true hz), sc_ok hp fz (.str _)⟩
  · exact hp.elim
theorem gSl_no : ∀ q lo hi, Nx (gSl q lo hi) := fun q lo hi => by
  unfold gSl; (repeat' (first | exact trivial | (refine grd_no ?_) | (exact gIxD_no _ _) | (exact bRepr_no _) | split))
def fSl (f : FV) (fl fh : FO) : FE := fun env => (f env).bind fun q => (fl q.1).bind fun l => (fh l.1).bind fun h => (gSl q.2 l.2 h.2).bind fun r => .ok (h.1, r)
theorem d_slice {lo hi : Option Expr} {fl fh : FO} {p2 : PySem.Pos} (he : DE X W e f) (hl : DO X W lo fl) (hh : DO X W hi fh) : DE X W (.Subscript e (.Slice lo hi none p2) pos) (fSl (rd f) fl fh) :=
  pe_le (pe_slice sl_g he.v hl hh) fun σ H Q ⟨H0, F0, F, env, r, q⟩ => by
    refine ⟨H0, F0, F, env, r, ?_⟩
    unfold fSl at q
    refine Rs.post_mono (Rs.post_bind.mp q) (fun p hp v F1 H1 r1 v1 e1 e2 => ?_) fun _ _ x => x
    refine ⟨H0, F0, F1, p.1, r1, ?_⟩
    refine Rs.post_mono (Rs.post_bind.mp hp) (fun l hl F2 H2 r2 e3 e4 => ?_) fun _ _ x => x.to e2 e1
    refine ⟨H0, F0, F2, l.1, r2, ?_⟩
    refine Rs.post_mono (Rs.post_bind.mp hl) (fun h hh F3 H3 r3 e5 e6 => ?_) fun _ _ x => x.to (e2.trans e4) (e1.trans e3)
    refine ⟨H0, F3, p.2, r3.fz, r3.base, v1.to (e4.trans e6) (e3.trans e5), ?_⟩
    have hh := Rs.post_bind.mp hh
    cases z : gSl p.2 l.2 h.2 with
    | bad => rw [z] at hh; exact hh.elim
    | ex e x => have y := gSl_no p.2 l.2 h.2; rw [z] at y; exact y.elim
    | ch m f => have y := gSl_no p.2 l.2 h.2; rw [z] at y; exact y.elim
    | ok res =>
      rw [z] at hh
      exact fun w F' H' ex hv => hh w F' H' (hv.rel r3 ex) (((e1.trans e3).trans e5).trans ex.h) (((e2.trans e4).trans e6).trans ex.f)
theorem s_setLc (i : Nat) {y : Str} {py spos : PySem.Pos} {elt tg iter : Expr} {ifs : List Expr} {scope : Scope} {own : List (Str × Nat)} {is : List Nat} {fi : FA} {g : FG} {t : FT} {fe : FE} (hc : X.calm = true) (hN : X.N.Nodup) (hi : X.N[i]? = some y) (hy : List.lookup y X.env.scope.names = some .local)
    (hsw : swapsWith (.ListComp elt [⟨tg, iter, ifs, 0⟩] scope pos) (some (.Name y py)) spos.line X.env = pure true) (hit : DI X W tg iter fi) (ok : BlkOk X.N X.env.scope scope own) (his : ∀ i ∈ is, i ∈ own.map (·.2))
    (hg : ∀ (s : Shared) (H : Hp) (C : Addr) (cl : List (Str × Addr)) (fp : List Addr), DG (X.blk s H scope (compEnvC scope cl C X.env) fp) tg is g)
    (ht : ∀ (s : Shared) (H : Hp) (C : Addr) (cl : List (Str × Addr)) (fp : List Addr), PTs (X.blk s H scope (compEnvC scope cl C X.env) fp) ifs (tT X.K X.mg W0 t))
    (he : ∀ (s : Shared) (H : Hp) (C : Addr) (cl : List (Str × Addr)) (fp : List Addr), DE (X.blk s H scope (compEnvC scope cl C X.env) fp) W0 elt fe) (hs : ∀ x, foldedSetIterable iter X.env x = pure x := by intro _; rfl) :
    DS X W (.Assign [.Name y py] (.ListComp elt [⟨tg, iter, ifs, 0⟩] scope pos) spos) (fSet i (fLc (own.map (·.2)) fi g t (st fe))) :=
  ps_le (ps_setLc hc hN hi hy hsw hit ok hg ht (fun s H C cl fp => (he s H C cl fp).d) hs) fun D σ H q => lc_le his (via (te := tC .non) q fun H0 F0 F env p r hp v F' H' hr _ e2 => by
    obtain ⟨e1, q1, q2⟩ := put_post hp
    obtain ⟨F2, e3, r2⟩ := put_ok hr q1
    exact q2 _ F2 H' r2 (e2.trans e3))
end
end Dn
namespace Dn
open PySem PySem.Spec L2 A1 A2 A3
abbrev allTabs : List Str := tabNames ++ lamNames
def TabsB (K : PySem.W.Frag) (base : Heap) (mg : Str → Option Value) : Prop := ∀ x ∈ allTabs, ∀ c P, PySem.W.tabIn K x = some (c, P) → GxR.TabB base mg c P
theorem TabsB.gen {K : PySem.W.Frag} {base : Heap} {mg : Str → Option Value} (h : TabsB K base mg) (x : Str) (hx : x ∈ tabNames) (c P : Addr) (e : PySem.W.tabIn K x = some (c, P)) : GxR.TabB base mg c P := h x (List.mem_append.mpr (.inl hx)) c P e
def IsTab (K : PySem.W.Frag) (P : Addr) : Prop := ∃ x ∈ allTabs, ∃ c, PySem.W.tabIn K x = some (c, P)
def IsLam (K : PySem.W.Frag) (P : Addr) : Prop := ∃ x ∈ lamNames, ∃ c, PySem.W.tabIn K x = some (c, P)
theorem IsLam.tab {K : PySem.W.Frag} {P : Addr} (h : IsLam K P) : IsTab K P := let ⟨x, hx, c, e⟩ := h; ⟨x, List.mem_append.mpr (.inr hx), c, e⟩
def tabApart (K : PySem.W.Frag) : Bool := tabNames.all fun x => lamNames.all fun y => match PySem.W.tabIn K x, PySem.W.tabIn K y with
  | some q, some q' => q.2 != q'.2
  | _, _ => true
def tabFree (K : PySem.W.Frag) : Bool := (allTabs.all fun x => match PySem.W.tabIn K x with
  | some q => (K.lookup q.2).isNone
  | none => true) && tabApart K
theorem tab_apart {K : PySem.W.Frag} (h : tabFree K = true) {x : Str} (hx : x ∈ tabNames) {c P : Addr} (e : PySem.W.tabIn K x = some (c, P)) : ¬ IsLam K P := fun ⟨y, hy, c', e'⟩ => by
  have := List.all_eq_true.mp (List.all_eq_true.mp (Bool.and_eq_true_iff.mp h).2 x hx) y hy
  rw [e, e'] at this
  simp at this
def tabKnown (p : Program) (loose : List Str) : Bool := allTabs.all fun x => ((PyProof.Rows.recsOf p).any fun e => e.name == x) || !((startupNames ++ loose ++ (PyProof.Rows.litsOf p).map (·.1) ++ (PyProof.Rows.clssOf p loose).map (·.name)).contains x)
theorem tabFree_out {K : PySem.W.Frag} (h : tabFree K = true) {x : Str} (hx : x ∈ allTabs) {c P : Addr} (e : PySem.W.tabIn K x = some (c, P)) : K.lookup P = none := by
  have := List.all_eq_true.mp (Bool.and_eq_true_iff.mp h).1 x hx
  rw [e] at this
  exact Option.isNone_iff_eq_none.mp this
theorem tabIn_ns {K : PySem.W.Frag} {x : Str} {q : Addr × Addr} (h : PySem.W.tabIn K x = some q) : ∃ f, PySem.W.nsIn K mainGlobals x = some (some (.ref f)) := by
  unfold PySem.W.tabIn at h
  split at h
  · rename_i f hf; exact ⟨f, hf⟩
  · cases h
theorem tab_known {p : Program} {loose : List Str} {mean : ExcName → Option Value} {mg mb : Str → Option Value} {h : Heap} {K : PySem.W.Frag} (T : PyProof.Rows.Top p loose mean mg mb h) (X : K.In h) (kn : tabKnown p loose = true) {x : Str} (hx : x ∈ allTabs) {c P : Addr} (e : PySem.W.tabIn K x = some (c, P)) :
    PySem.W.CodeHd h c P ∧ h.get? P = some (PySem.W.tabObj #[]) := by
  have k1 := List.all_eq_true.mp kn x hx
  cases hq : (PyProof.Rows.recsOf p).find? fun e => e.name == x with
  | some d => exact PySem.W.tab_of T X hq e
  | none =>
    have nr : ∀ d ∈ PyProof.Rows.recsOf p, ¬ (d.name == x) = true := List.find?_eq_none.mp hq
    have na : ((PyProof.Rows.recsOf p).any fun e => e.name == x) = false := by
      cases z : (PyProof.Rows.recsOf p).any fun e => e.name == x with
      | false => rfl
      | true =>
        obtain ⟨d, hd, hn⟩ := List.any_eq_true.mp z
        exact absurd hn (nr d hd)
    rw [na, Bool.false_or, Bool.not_eq_true'] at k1
    have k1 := k1
    simp only [List.contains_eq_mem, List.mem_append, decide_eq_false_iff_not, not_or] at k1
    obtain ⟨f, hf⟩ := tabIn_ns e
    have e1 := PySem.W.mg_of X T.g hf
    rw [T.free x k1.1.1.1 k1.1.1.2 (fun z => by
      obtain ⟨d, hd, hn⟩ := List.mem_map.mp z
      exact nr d hd (by rw [hn]; exact beq_self_eq_true x)) k1.1.2 k1.2] at e1
    cases e1
section
variable {P : Program} {w : World} {K : PySem.W.Frag} {mg mb : Str → Option Value} {k : Nat} {fa a : Addr} {fd : FuncData} {x : Str} {S : SF} {s1 : Shared} {vs : List Value} {ns : List Int}
open Classical in
noncomputable def tabO (K : PySem.W.Frag) (b : Addr) : HO := if IsLam K b then .tbl #[] else tabE b
structure Entry (K : PySem.W.Frag) (s1 : Shared) (a : Addr) (ns : List Int) (P : Program) (w : World) (H : Hp) : Prop where
  seq : SqL K H a (ns.map V.int)
  ok : HOk P w H s1.heap
  kfree : ∀ b, H b ≠ none → K.lookup b = none
  frz : ∀ b u, H b = some u → (b = a ∧ ∃ o xs, u = .frz o (.lst xs)) ∨ (IsTab K b ∧ u = tabO K b)
  tabs : ∀ b, IsTab K b → H b = some (tabO K b)
theorem tabE_ok {H : Hp} {h : Heap} {b : Addr} (e : h.get? b = some (PySem.W.tabObj #[])) : ObjOk P w H h b (tabE b) :=
  ⟨⟨#[], e, trivial⟩, ⟨_, e⟩, fun _ _ ⟨ps, q, t⟩ keep => ⟨ps, keep _ q, t⟩⟩
theorem tabO_ok {K : PySem.W.Frag} {H : Hp} {h : Heap} {b : Addr} (e : h.get? b = some (PySem.W.tabObj #[])) : ObjOk P w H h b (tabO K b) := by
  unfold tabO
  split
  · exact e
  · exact tabE_ok e
open Classical in
theorem entry_of (kin : K.In s1.heap) (hT : ∀ b, IsTab K b → s1.heap.get? b = some (PySem.W.tabObj #[])) (nT : ∀ b, IsTab K b → K.lookup b = none) (ha : s1.heap.get? a = some { cls := .type "list", data := .seq vs.toArray }) (hi : PyProof.Rows.IntsAre vs ns) (hl : ns.length ≤ sizeLine) : ∃ H, Entry K s1 a ns P w H := by
  have rv := vals_ints hi
  have hlen := hi.length
  have nota : ¬ IsTab K a := fun z => by
    have := hT a z
    rw [ha] at this
    cases Obj.mk.inj (Option.some.inj this) |>.2.2.1
  cases hk : K.lookup a with
  | some o =>
    have e := kin a o hk
    rw [ha] at e
    cases e
    refine ⟨fun b => if IsTab K b then some (tabO K b) else none, .inr ⟨_, vs.toArray, _, hk, rfl, rfl, rfl, by rw [List.size_toArray, hlen]; exact hl, by simpa using rv⟩, fun b u z => ?_, fun b z => ?_, fun b u z => ?_, fun b z => if_pos z⟩
    · by_cases y : IsTab K b
      · have z := (if_pos y).symm.trans z
        cases z
        exact tabO_ok (hT b y)
      · have z := (if_neg y).symm.trans z
        cases z
    · by_cases y : IsTab K b
      · exact nT b y
      · exact absurd (if_neg y) z
    · by_cases y : IsTab K b
      · have z := (if_pos y).symm.trans z
        exact .inr ⟨y, (Option.some.inj z).symm⟩
      · have z := (if_neg y).symm.trans z
        cases z
  | none =>
    refine ⟨fun b => if b = a then some (HO.frz { cls := .type "list", data := .seq vs.toArray } (.lst (ns.map V.int))) else if IsTab K b then some (tabO K b) else none, .inl (.inr ⟨_, if_pos rfl⟩), fun b u z => ?_, fun b z => ?_, fun b u z => ?_, fun b z => ?_⟩
    · by_cases y : b = a
      · have z := (if_pos y).symm.trans z
        cases z
        subst y
        exact ⟨ha, by rw [List.length_map]; exact hl, vs, _, rv, ha⟩
      · have z := (if_neg y).symm.trans z
        by_cases y2 : IsTab K b
        · have z := (if_pos y2).symm.trans z
          cases z
          exact tabO_ok (hT b y2)
        · have z := (if_neg y2).symm.trans z
          cases z
    · by_cases y : b = a
      · rw [y]; exact hk
      · by_cases y2 : IsTab K b
        · exact nT b y2
        · exact absurd ((if_neg y).trans (if_neg y2)) z
    · by_cases y : b = a
      · have z := (if_pos y).symm.trans z
        exact .inl ⟨y, _, _, (Option.some.inj z).symm⟩
      · have z := (if_neg y).symm.trans z
        by_cases y2 : IsTab K b
        · have z := (if_pos y2).symm.trans z
          exact .inr ⟨y2, (Option.some.inj z).symm⟩
        · have z := (if_neg y2).symm.trans z
          cases z
    · have y : ¬ b = a := fun y => nota (by rw [← y]; exact z)
      exact (if_neg y).trans (if_pos z)
theorem law_g (kin : K.In s1.heap) (hns : s1.heap.Ns mainGlobals mg) (hb : s1.heap.Ns builtinsNs mb) (hbb : ∀ x : Str, x ≠ "__name__" → mb x = bootBuiltins x) (hlim : s1.heap.NoLimit) (hg : s1.gens = #[])
    (hT : ∀ x ∈ allTabs, ∀ c P, PySem.W.tabIn K x = some (c, P) → PySem.W.CodeHd s1.heap c P ∧ s1.heap.get? P = some (PySem.W.tabObj #[])) (nT : tabFree K = true)
    (hbm : ∃ (bm : Addr) (ob : Obj), mg "__builtins__" = some (.ref bm) ∧ bm ≠ builtinsNs ∧ s1.heap.get? bm = some ob ∧ ob.cls = .type "module" ∧ ob.dict = some builtinsNs ∧ ob.data = .plain)
    (ha : s1.heap.get? a = some { cls := .type "list", data := .seq vs.toArray }) (hi : PyProof.Rows.IntsAre vs ns) (hl : ns.length ≤ sizeLine) (hr : Room k callerA)
    (F : ∀ base : Heap, K.In base → base.Ns mainGlobals mg → TabsB K base mg → FnG P w K mg base k fa fd [x] S) (hbind : ∀ (s : Shared) (u : Value), BindsTo s fd ⟨[u], []⟩ [(x, u)]) (hS : S [.list (ns.map .int)] = .ok (.sh true (.bool true))) :
    codeAny (model P w) callerA (.call (.ref fa) ⟨[.ref a], []⟩) (fun r s' => r = .ok (.ret (.bool true)) ∧ OldK s1.heap s'.heap ∧ s'.os = s1.os ∧ PyProof.Rows.AllBare s'.gens) s1 := by
  have tabAt : ∀ b, IsTab K b → s1.heap.get? b = some (PySem.W.tabObj #[]) := fun b ⟨x, hx, c, e⟩ => (hT x hx c b e).2
  have tabK : ∀ b, IsTab K b → K.lookup b = none := fun b ⟨x, hx, c, e⟩ => tabFree_out nT hx e
  obtain ⟨H, en⟩ := entry_of (P := P) (w := w) kin tabAt tabK ha hi hl
  -- what is neither a list nor a table is not tracked
  have plain : ∀ {b : Addr} {o : Obj}, s1.heap.get? b = some o → (∀ vs c, o.data ≠ .seq vs c) → o ≠ PySem.W.tabObj #[] → H b = none := fun {b o} e d t => by
    cases q : H b with
    | none => rfl
    | some u =>
      rcases en.frz b u q with ⟨y, _⟩ | ⟨y, _⟩
      · subst y
        rw [ha] at e
        cases e
        exact absurd rfl (d _ _)
      · rw [tabAt b y] at e
        cases e
        exact absurd rfl t
  have nodict : ∀ {b : Addr} {o : Obj} {es : Array DictEntry} {ep : Nat}, s1.heap.get? b = some o → o.data = .dict es ep → H b = none := fun {b o es ep} e d => plain e (fun vs c z => by rw [d] at z; cases z) fun z => by rw [z] at d; cases d
  have ns_ : ∀ {b : Addr} {m : Str → Option Value}, s1.heap.Ns b m → (hidT s1.heap H).Ns b m := fun {b m} h => by
    obtain ⟨o, es, ep, e, d, r⟩ := h
    exact ⟨o, es, ep, hidT_get e (nodict e d), d, r⟩
  have kb : K.In (hidT s1.heap H) := fun b o e => by
    refine hidT_get (kin b o e) ?_
    cases q : H b with
    | none => rfl
    | some u =>
      rw [en.kfree b (by rw [q]; exact fun z => nomatch z)] at e
      cases e
  have lim : (hidT s1.heap H).NoLimit := by
    obtain ⟨mc, h1, h2⟩ := hlim
    exact ⟨mc, ns_ h1, h2⟩
  have tb : TabsB K (hidT s1.heap H) mg := fun x hx c P e => by
    obtain ⟨hc, hp⟩ := hT x hx c P e
    refine ⟨?_, ?_, fun z => ?_⟩
    · obtain ⟨o, us, file, tf, flags, tg, inF, text, tt, e1, r1, rest⟩ := hc
      refine ⟨o, us, file, tf, flags, tg, inF, text, tt, hidT_get e1 (plain e1 (fun vs c z => ?_) fun z => ?_), r1, rest⟩
      · rw [rest.1] at z; cases z
      · rw [z] at r1; cases r1
    · obtain ⟨bm, ob, b1, b2, b3, b4, b5, b6⟩ := hbm
      refine ⟨bm, ob, b1, b2, fun q => ?_, fun q => ?_, hidT_get b3 (plain b3 (fun vs c z => ?_) fun z => ?_), b4, b5, b6⟩
      · obtain ⟨o, es, ep, e, hd, _⟩ := hns
        rw [q, e] at b3
        cases b3
        rw [hd] at b6
        cases b6
      · rw [q, hp] at b3
        cases b3
        cases b6
      · rw [b6] at z; cases z
      · rw [z] at b4; cases b4
    · obtain ⟨o, es, ep, e, hd, _⟩ := hns
      rw [z, hp] at e
      cases e
      cases hd
  have env0 : Env0 P w K mg (hidT s1.heap H) callerA [] s1 H := ⟨rfl, ⟨kb, ns_ hns, ⟨mb, ns_ hb, hbb⟩, lim⟩, fun b o e => of_hidT e, Nat.le_of_eq (hidT_size _ _), trivial, fun b z => (List.not_mem_nil z).elim, en.ok, .of_eq hg⟩
  -- what is shared at the entry: all but the lambdas' tables
  obtain ⟨Fh, hFh⟩ : ∃ Fh : Hp, ∀ b, (IsLam K b ∧ Fh b = none) ∨ (¬ IsLam K b ∧ Fh b = H b) := by
    classical
    refine ⟨fun b => if IsLam K b then none else H b, fun b => ?_⟩
    by_cases z : IsLam K b
    · exact .inl ⟨z, if_pos z⟩
    · exact .inr ⟨z, if_neg z⟩
  have fz : Sg Fh H := ⟨fun b u e => by
    rcases hFh b with ⟨_, z⟩ | ⟨_, z⟩
    · rw [z] at e; cases e
    · rw [← z]; exact e, fun b u e => by
    rcases hFh b with ⟨_, z⟩ | ⟨nl, z⟩
    · rw [z] at e; cases e
    · rw [z] at e
      rcases en.frz b u e with ⟨_, o, xs, rfl⟩ | ⟨_, rfl⟩
      · rfl
      · unfold tabO; rw [if_neg nl]; rfl⟩
  have fT : TabsF K Fh := fun x hx c P e => by
    have nl := tab_apart nT hx e
    rcases hFh P with ⟨z, _⟩ | ⟨_, z⟩
    · exact absurd z nl
    · rw [z, en.tabs P ⟨x, List.mem_append.mpr (.inl hx), c, e⟩]; unfold tabO; rw [if_neg nl]
  have lT : LamT K H := fun x hx c P e => by
    have il : IsLam K P := ⟨x, hx, c, e⟩
    refine ⟨#[], ?_, trivial, fun pos cv hc => ?_⟩
    · rw [en.tabs P il.tab]; unfold tabO; rw [if_pos il]
    · have z : codeAmong pos [] = some cv := hc
      simp [codeAmong] at z
  have seqF : SqL K Fh a (ns.map V.int) := by
    rcases en.seq with (h | ⟨o, h⟩) | h
    · refine .inl (.inl ?_)
      rcases hFh a with ⟨z, _⟩ | ⟨_, z⟩
      · have q := tabAt a z.tab
        rw [ha] at q
        cases Obj.mk.inj (Option.some.inj q) |>.2.2.1
      · rw [z]; exact h
    · refine .inl (.inr ⟨o, ?_⟩)
      rcases hFh a with ⟨z, _⟩ | ⟨_, z⟩
      · have q := tabAt a z.tab
        rw [ha] at q
        cases Obj.mk.inj (Option.some.inj q) |>.2.2.1
      · rw [z]; exact h
    · exact .inr h
  have sp : spD K mg [x].length S [.ref a] H (fun v H' => v = .bl true ∧ Sm H H') (fun _ _ _ => False) := ⟨Fh, [.list (ns.map .int)], rfl, fz, ⟨fT, lT⟩, .cons (.lst seqF (fun z => nomatch z) (IsA.ints ns)) .nil, by
    rw [hS]
    intro v F' H' ex hv
    have hv : Is K H true F' v (.bool true) := hv
    cases hv; exact ⟨rfl, ex.h⟩⟩
  refine codeAny_mono ((F _ kb (ns_ hns) tb).run callerA [] s1 H ⟨[.ref a], []⟩ [.ref a] [.ref a] _ _ hr rfl env0 (hbind s1 (.ref a)) (.cons rfl .nil) sp) fun r s' h => ?_
  cases r with
  | error e =>
    obtain ⟨_, _, _, _, _, _, _, _, _, _, _, _, z⟩ := h
    exact z.elim
  | ok fl =>
    cases fl with
    | ret u =>
      obtain ⟨v, H', os, bare, un, hok', rr, rfl, same⟩ := h
      obtain rfl : u = Value.bool true := rr
      have grown : ∀ b, IsTab K b → ∃ ps, s'.heap.get? b = some (PySem.W.tabObj ps) := fun b hb => by
        by_cases il : IsLam K b
        · obtain ⟨x, hx, c, e⟩ := il
          obtain ⟨ps, q, _⟩ := same.tabs _ _ (lT x hx c b e)
          exact ⟨ps, hok' b _ q⟩
        · have q0 := en.tabs b hb
          unfold tabO at q0
          rw [if_neg il] at q0
          obtain ⟨⟨ps, q, _⟩, _⟩ := (show ObjOk P w H' s'.heap b (tabE b) from hok' b _ (same.g q0))
          exact ⟨ps, q⟩
      have kept : ∀ b o, ¬ IsTab K b → s1.heap.get? b = some o → s'.heap.get? b = some o := fun b o nb e => by
        cases q : H b with
        | none => exact un.keep b o e q (fun z => List.not_mem_nil z) (fun z => List.not_mem_nil z)
        | some u =>
          rcases en.frz b u q with ⟨_, ob, xs, rfl⟩ | ⟨y, _⟩
          · obtain ⟨e1, _⟩ := en.ok b _ q
            obtain ⟨e2, _⟩ := hok' b _ (un.frzs b ob _ q)
            rw [e] at e1
            cases e1
            exact e2
          · exact absurd y nb
      refine ⟨rfl, ⟨fun b o e => ?_, fun b o e => ?_⟩, os, bare⟩
      · by_cases hb : IsTab K b
        · obtain ⟨ps, q⟩ := grown b hb
          obtain ⟨x, hx, c, e3⟩ := hb
          have hc := hT x hx c b e3
          rw [hc.2] at e
          cases e
          exact .inr (.inl ⟨(hc.1.tab hc.2).isCodeTable, rfl, #[], ps, rfl, by rw [q, Array.empty_append]⟩)
        · exact .inl (kept b o hb e)
      · by_cases hb : IsTab K b
        · obtain ⟨ps, q⟩ := grown b hb
          exact ⟨_, q⟩
        · exact ⟨o, kept b o hb e⟩
    | next => exact (h : False).elim
    | brk => exact (h : False).elim
    | cont => exact (h : False).elim
end
theorem walk_d {l : PySem.W.OpenLaw} {n k : Nat} {q : Program} {loose : List Str} {XP : (Str → Option Value) → Heap → Prop} {YP : World → Heap → Prop} {d : DefRec} {K : Params → PySem.W.Frag} {S : SF} {x : Str}
    (hn : l.most = some n) (hn2 : n ≤ sizeLine) (hdf : d.params.defaults = []) (hr : Room k callerA) (hY : ∀ (w : World) (h : Heap), YP w h → (K w.params).In h) (hF : ∀ pr, tabFree (K pr) = true) (hK : tabKnown q (PySem.W.looseW q loose) = true)
    (F : ∀ (w : World) (mg : Str → Option Value) (fa : Addr) (h : Heap), (K w.params).In h → h.Ns mainGlobals mg → mg d.name = some (.ref fa) →
      ∃ fd : FuncData, (∀ (s : Shared) (u : Value), BindsTo s fd ⟨[u], []⟩ [(x, u)]) ∧ ∀ base : Heap, (K w.params).In base → base.Ns mainGlobals mg → TabsB (K w.params) base mg → FnG l.prog w (K w.params) mg base k fa fd [x] S)
    (hS : ∀ ns : List Int, ns.length ≤ n → S [.list (ns.map .int)] = .ok (.sh true (.bool true))) : PySem.W.WalkO q loose XP YP l.row.toRowW d [] (fun f vs => PySem.call f vs) := by
  refine Att.attach_call hn hdf fun w s0 s1 mg mb fa o pm cd doc a vs ns G Y ho hd hcd hmg hobj hints hlen hg => ?_
  obtain ⟨fd, hb, hF'⟩ := F w mg fa _ (hY w _ Y) G.T.g hmg
  exact law_g (hY w _ Y) G.T.g G.T.b G.T.builtins G.T.nolimit hg (fun x hx c P e => tab_known G.T (hY w _ Y) hK hx e) (hF _) G.T.bmain hobj hints (Nat.le_trans hlen hn2) hr hF' hb (hS ns hlen)
end Dn
namespace Dn
open PySem PySem.Spec L2 A1 A2 A3
def fgO (is : List Nat) : Out → Out
  | .nx e => .nx (wipeE e is)
  | .bk e => .bk (wipeE e is)
  | .ct e => .ct (wipeE e is)
  | .rt r => .rt r
def fFg (is : List Nat) (f : FS) : FS := fun env => (f env).bind fun o => .ok (fgO is o)
theorem rel_fg {K : PySem.W.Frag} {H0 F0 F H : Hp} {env : Env} {σ : St} (is : List Nat) (r : Rel K H0 F0 env σ F H) : Rel K H0 F0 (wipeE env is) σ F H :=
  r.sub (by rw [wipeE_length]; exact r.len) fun i s q => .inl ⟨(wipeE_get q).2, rfl⟩
theorem ss_forget {X : Cx} {W : WX} (is : List Nat) {bs : List Stmt} {f : FS} (h : DSs X W bs f) : DSs X W bs (fFg is f) := pss_le h fun D σ H ⟨H0, F0, F, env, r, q⟩ => by
  refine ⟨H0, F0, F, env, r, ?_⟩
  unfold fFg at q
  refine Rs.post_mono (Rs.post_bind.mp q) (fun o ho => ?_) fun _ _ x => x
  cases o with
  | nx e => exact fun σ' F' H' r' s' => ho σ' F' H' (rel_fg is r') s'
  | bk e => exact fun σ' F' H' r' s' => ho σ' F' H' (rel_fg is r') s'
  | ct e => exact fun σ' F' H' r' s' => ho σ' F' H' (rel_fg is r') s'
  | rt r => exact ho
def gt : Env → Nat → Option Sl
  | [], _ => none
  | s :: _, 0 => s
  | _ :: r, i + 1 => gt r i
def pt : Env → Nat → Option Sl → Env
  | [], _, _ => []
  | _ :: r, 0, x => x :: r
  | s :: r, i + 1, x => s :: pt r i x
theorem gt_eq : ∀ (env : Env) (i : Nat), env.getD i none = gt env i
  | [], i => by simp [gt]
  | s :: r, 0 => by simp [gt]
  | s :: r, i + 1 => by simpa [gt] using gt_eq r i
theorem pt_eq : ∀ (env : Env) (i : Nat) (x : Option Sl), env.set i x = pt env i x
  | [], i, x => by simp [pt]
  | s :: r, 0, x => by simp [pt]
  | s :: r, i + 1, x => by simpa [pt] using pt_eq r i x
theorem gt_m {α : Type} (env : Env) (i : Nat) (f : Sl → α) (z : α) : (match env[i]? with
    | some (some s) => f s
    | _ => z) = (match gt env i with
    | some s => f s
    | none => z) := by
  rw [← gt_eq, List.getD_eq_getElem?_getD]
  cases env[i]? with
  | none => rfl
  | some s => cases s <;> rfl
@[simp] theorem gt_nil {i : Nat} : gt [] i = none := rfl
@[simp] theorem gt_zero {s : Option Sl} {r : Env} : gt (s :: r) 0 = s := rfl
@[simp] theorem gt_succ {s : Option Sl} {r : Env} {i : Nat} : gt (s :: r) (i + 1) = gt r i := rfl
@[simp] theorem pt_zero {s x : Option Sl} {r : Env} : pt (s :: r) 0 x = x :: r := rfl
@[simp] theorem pt_succ {s x : Option Sl} {r : Env} {i : Nat} : pt (s :: r) (i + 1) x = s :: pt r i x := rfl
def atS (env : Env) (i : Nat) : Option Sl → Rs (Env × R)
  | some (.sh n d) => .ok (env, .sh n d)
  | some (.ow _ _) => .ok (env, .own i)
  | _ => .bad
def vwS (env : Env) : Option Sl → Rs (Env × Dv)
  | some (.ow n ds) => .ok (env, (n, .list ds))
  | _ => .bad
def kpS (env : Env) (i : Nat) : Option Sl → Rs (Env × Dv)
  | some s => .ok (pt env i (some (.sh s.flag s.data)), (s.flag, s.data))
  | none => .bad
def rdR (p : Env × R) : Rs (Env × Dv) := match p.2 with
  | .sh n d => .ok (p.1, (n, d))
  | .nw n ds => .ok (p.1, (n, .list ds))
  | .own i => vwS p.1 (gt p.1 i)
def stR (p : Env × R) : Rs (Env × Dv) := match p.2 with
  | .sh n d => .ok (p.1, (n, d))
  | .nw n ds => .ok (p.1, (n, .list ds))
  | .own i => kpS p.1 i (gt p.1 i)
section
variable {env : Env} {i : Nat} {n : Bool} {d : PyData} {ds : List PyData} {s : Sl}
@[simp] theorem atS_sh : atS env i (some (.sh n d)) = .ok (env, .sh n d) := rfl
@[simp] theorem atS_ow : atS env i (some (.ow n ds)) = .ok (env, .own i) := rfl
@[simp] theorem vwS_ow : vwS env (some (.ow n ds)) = .ok (env, (n, .list ds)) := rfl
@[simp] theorem kpS_some : kpS env i (some s) = .ok (pt env i (some (.sh s.flag s.data)), (s.flag, s.data)) := rfl
@[simp] theorem rdR_sh : rdR (env, .sh n d) = .ok (env, (n, d)) := rfl
@[simp] theorem rdR_nw : rdR (env, .nw n ds) = .ok (env, (n, .list ds)) := rfl
@[simp] theorem rdR_own : rdR (env, .own i) = vwS env (gt env i) := rfl
@[simp] theorem stR_sh : stR (env, .sh n d) = .ok (env, (n, d)) := rfl
@[simp] theorem stR_nw : stR (env, .nw n ds) = .ok (env, (n, .list ds)) := rfl
@[simp] theorem stR_own : stR (env, .own i) = kpS env i (gt env i) := rfl
end
section
variable {env : Env} {g h : FS} {f fa fb : FE} {v va vb : FV} {t u : FT} {a : FA} {i : Nat} {n : Bool} {d : PyData} {ds : List PyData}
theorem get_gt (env : Env) (i : Nat) : (env[i]?).join = gt env i := by
  rw [← gt_eq, List.getD_eq_getElem?_getD]
  cases env[i]? <;> rfl
theorem vw_m (e : Env) (i : Nat) : (match e[i]? with
    | some (some (.ow n ds)) => (.ok (e, (n, .list ds)) : Rs (Env × Dv))
    | _ => .bad) = vwS e (gt e i) := by
  rw [← get_gt]
  cases e[i]? with
  | none => rfl
  | some s =>
    cases s with
    | none => rfl
    | some s => cases s <;> rfl
theorem kp_m (e : Env) (i : Nat) : (match e[i]? with
    | some (some s) => (.ok (e.set i (some (.sh s.flag s.data)), (s.flag, s.data)) : Rs (Env × Dv))
    | _ => .bad) = kpS e i (gt e i) := by
  rw [← get_gt]
  cases e[i]? with
  | none => rfl
  | some s =>
    cases s with
    | none => rfl
    | some s =>
      show (.ok (e.set i (some (.sh s.flag s.data)), (s.flag, s.data)) : Rs (Env × Dv)) = _
      rw [pt_eq]; rfl
theorem rd_ap : rd f env = (f env).bind rdR := by
  unfold rd
  congr 1
  funext p
  obtain ⟨e, r⟩ := p
  cases r with
  | sh n d => rfl
  | nw n d => rfl
  | own i => exact vw_m e i
theorem st_ap : st f env = (f env).bind stR := by
  unfold st
  congr 1
  funext p
  obtain ⟨e, r⟩ := p
  cases r with
  | sh n d => rfl
  | nw n d => rfl
  | own i => exact kp_m e i
theorem f2_ap {o : G2} : f2 o va vb env = (va env).bind fun p => (vb p.1).bind fun q => (o p.2 q.2).bind fun r => .ok (q.1, r) := rfl
theorem f1_ap {o : G1} : f1 o v env = (v env).bind fun p => (o p.2).bind fun r => .ok (p.1, r) := rfl
theorem fCons_ap : fCons v a env = (v env).bind fun p => (a p.1).bind fun q => .ok (q.1, p.2 :: q.2) := rfl
theorem fTup_ap : fTup a env = (a env).bind fun p => grd (decide (p.2.length ≤ 10000)) (.ok (p.1, .sh (flags p.2) (.tuple (datas p.2)))) := rfl
theorem fLst_ap : fLst a env = (a env).bind fun p => grd (decide (p.2.length ≤ 10000)) (.ok (p.1, .nw (flags p.2) (datas p.2))) := rfl
theorem fNot_ap : fNot t env = (t env).bind fun b => .ok (!b) := rfl
theorem fAnd_ap : fAnd t u env = (t env).bind fun b => if b = true then u env else .ok false := rfl
theorem fOr_ap : fOr t u env = (t env).bind fun b => if b = true then .ok true else u env := rfl
theorem fIf_ap : fIf t fa fb env = (t env).bind fun b => if b = true then fa env else fb env := rfl
@[simp] theorem boolR_ok {e : Env} {b : Bool} : boolR env (.ok (e, (n, .bool b))) = .ok b := rfl
theorem fB_ap : fB v env = boolR env (v (lent env)) := rfl
theorem fDrop_ap : fDrop f env = (f env).bind fun p => .ok (.nx p.1) := rfl
def seqO (h : FS) : Out → Rs Out
  | .nx e => h e
  | o => .ok o
@[simp] theorem seqO_nx : seqO h (.nx env) = h env := rfl
@[simp] theorem seqO_rt {r : R} : seqO h (.rt r) = .ok (.rt r) := rfl
@[simp] theorem seqO_bk : seqO h (.bk env) = .ok (.bk env) := rfl
@[simp] theorem seqO_ct : seqO h (.ct env) = .ok (.ct env) := rfl
theorem fSeq_ap : fSeq g h env = (g env).bind (seqO h) := by
  unfold fSeq
  refine congrArg (Rs.bind (g env)) (funext fun o => ?_)
  cases o <;> rfl
def retS : Option Sl → Rs Out
  | some (.ow n ds) => .ok (.rt (.nw n ds))
  | _ => .bad
def retR (p : Env × R) : Rs Out := match p.2 with
  | .sh n d => .ok (.rt (.sh n d))
  | .nw n ds => .ok (.rt (.nw n ds))
  | .own i => retS (gt p.1 i)
@[simp] theorem retS_ow : retS (some (.ow n ds)) = .ok (.rt (.nw n ds)) := rfl
@[simp] theorem retR_sh : retR (env, .sh n d) = .ok (.rt (.sh n d)) := rfl
@[simp] theorem retR_nw : retR (env, .nw n ds) = .ok (.rt (.nw n ds)) := rfl
@[simp] theorem retR_own : retR (env, .own i) = retS (gt env i) := rfl
theorem fRet_ap : fRet f env = (f env).bind retR := by
  unfold fRet
  congr 1
  funext p
  obtain ⟨e, r⟩ := p
  cases r with
  | sh n d => rfl
  | nw n d => rfl
  | own i =>
    show (match e[i]? with
      | some (some (.ow n ds)) => (.ok (.rt (.nw n ds)) : Rs Out)
      | _ => .bad) = retS (gt e i)
    rw [← get_gt]
    cases e[i]? with
    | none => rfl
    | some s =>
      cases s with
      | none => rfl
      | some s => cases s <;> rfl
theorem fSet_ap : fSet i f env = (f env).bind fun p => (put i p).bind fun e => .ok (.nx e) := rfl
def putS (e : Env) (i j : Nat) : Option Sl → Rs Env
  | some s => .ok (pt (pt e j (some (.sh s.flag s.data))) i (some (.sh s.flag s.data)))
  | none => .bad
@[simp] theorem putS_some {e : Env} {j : Nat} {s : Sl} : putS e i j (some s) = .ok (pt (pt e j (some (.sh s.flag s.data))) i (some (.sh s.flag s.data))) := rfl
@[simp] theorem put_sh : put i (env, .sh n d) = .ok (pt env i (some (.sh n d))) := by rw [← pt_eq]; rfl
@[simp] theorem put_nw : put i (env, .nw n ds) = .ok (pt env i (some (.ow n ds))) := by rw [← pt_eq]; rfl
@[simp] theorem put_own {j : Nat} : put i (env, .own j) = putS env i j (gt env j) := by
  show (match env[j]? with
    | some (some s) => (.ok ((env.set j (some (.sh s.flag s.data))).set i (some (.sh s.flag s.data))) : Rs Env)
    | _ => .bad) = _
  rw [← get_gt]
  cases env[j]? with
  | none => rfl
  | some s =>
    cases s with
    | none => rfl
    | some s =>
      show (.ok ((env.set j (some (.sh s.flag s.data))).set i (some (.sh s.flag s.data))) : Rs Env) = _
      rw [pt_eq, pt_eq]; rfl
theorem gsC_ap {x : FG} {y : FGs} : gsC x y n (d :: ds) env = (x (n, d) env).bind fun e => y n ds e := rfl
theorem gT_ap {x : FGs} {k : Nat} : gT k x (n, .tuple ds) env = grd (decide (ds.length = k)) (x n ds env) := rfl
theorem fAsg_ap {x : FG} : fAsg x v env = (v env).bind fun p => (x p.2 p.1).bind fun e => .ok (.nx e) := rfl
def appS (e : Env) (i : Nat) (p : Dv) : Option Sl → Rs Out
  | some (.ow n ds) => grd (decide (ds.length < 1000000)) (.ok (.nx (pt e i (some (.ow (n && p.1) (ds ++ [p.2]))))))
  | _ => .bad
@[simp] theorem appS_ow {p : Dv} : appS env i p (some (.ow n ds)) = grd (decide (ds.length < 1000000)) (.ok (.nx (pt env i (some (.ow (n && p.1) (ds ++ [p.2])))))) := rfl
def isOw : Option Sl → Bool
  | some (.ow _ _) => true
  | _ => false
@[simp] theorem isOw_ow : isOw (some (.ow n ds)) = true := rfl
theorem fApp_ap : fApp i v env = grd (isOw (gt env i)) ((v env).bind fun p => appS p.1 i p.2 (gt p.1 i)) := by
  unfold fApp
  have key : ∀ (e : Env) (p : Dv), (match e[i]? with
    | some (some (.ow n ds)) => (grd (decide (ds.length < 1000000)) (.ok (Out.nx (e.set i (some (.ow (n && p.1) (ds ++ [p.2])))))) : Rs Out)
    | _ => .bad) = appS e i p (gt e i) := fun e p => by
    rw [← get_gt]
    cases e[i]? with
    | none => rfl
    | some s =>
      cases s with
      | none => rfl
      | some s =>
        cases s with
        | ow n ds =>
          show grd (decide (ds.length < 1000000)) (Rs.ok (Out.nx (e.set i (some (.ow (n && p.1) (ds ++ [p.2])))))) = _
          rw [pt_eq]; rfl
        | _ => rfl
  rw [← get_gt env i]
  cases env[i]? with
  | none => rfl
  | some s =>
    cases s with
    | none => rfl
    | some s =>
      cases s with
      | ow n ds =>
        show (v env).bind _ = (v env).bind _
        congr 1
        funext p
        exact key p.1 p.2
      | _ => rfl
def setS (e : Env) (i : Nat) (p : Dv) (k : PyData) : Option Sl → Rs Out
  | some (.ow n ds) => match k with
    | .int j => match ixN ds.length j with
      | some j => .ok (.nx (pt e i (some (.ow (n && p.1) (ds.set j p.2)))))
      | none => .bad
    | _ => .bad
  | _ => .bad
@[simp] theorem setS_ow {p : Dv} {j : Int} : setS env i p (.int j) (some (.ow n ds)) = (match ixN ds.length j with
  | some j => .ok (.nx (pt env i (some (.ow (n && p.1) (ds.set j p.2)))))
  | none => .bad) := rfl
theorem fPutIx_ap : fPutIx i va vb env = (vb env).bind fun p => grd (isOw (gt p.1 i)) ((va p.1).bind fun q => setS q.1 i p.2 q.2.2 (gt q.1 i)) := by
  unfold fPutIx
  congr 1
  funext p
  have key : ∀ (e : Env) (k : PyData), (match e[i]?, k with
    | some (some (.ow n ds)), .int k => (match ixN ds.length k with
      | some j => Rs.ok (Out.nx (e.set i (some (.ow (n && p.2.1) (ds.set j p.2.2)))))
      | none => Rs.bad)
    | _, _ => Rs.bad) = setS e i p.2 k (gt e i) := fun e k => by
    rw [← get_gt]
    cases e[i]? with
    | none => rfl
    | some s =>
      cases s with
      | none => rfl
      | some s =>
        cases s with
        | ow n ds =>
          cases k with
          | int j =>
            show (match ixN ds.length j with
              | some j => Rs.ok (Out.nx (e.set i (some (.ow (n && p.2.1) (ds.set j p.2.2)))))
              | none => Rs.bad) = (match ixN ds.length j with
              | some j => Rs.ok (Out.nx (pt e i (some (.ow (n && p.2.1) (ds.set j p.2.2)))))
              | none => Rs.bad)
            cases ixN ds.length j with
            | none => rfl
            | some j => exact congrArg (fun z => Rs.ok (Out.nx z)) (pt_eq _ _ _)
          | _ => rfl
        | _ => rfl
  rw [← get_gt p.1 i]
  cases p.1[i]? with
  | none => rfl
  | some s =>
    cases s with
    | none => rfl
    | some s =>
      cases s with
      | ow n ds =>
        show (va p.1).bind _ = (va p.1).bind _
        congr 1
        funext q
        exact key q.1 q.2.2
      | _ => rfl
theorem fIt_ap : fIt v env = (v env).bind fun p => (match p.2.2 with
  | .list ds => .ok (p.1, ds.map fun d => (p.2.1, d))
  | .tuple ds => .ok (p.1, ds.map fun d => (p.2.1, d))
  | .str x => .ok (p.1, x.cps.toList.map fun c => (true, .str ⟨#[c]⟩))
  | .dict q => (match dictKeys (.dict q) with
    | some ks => .ok (p.1, ks.map fun d => (p.2.1, d))
    | none => .bad)
  | _ => .bad) := rfl
theorem fRg1_ap : fRg1 a env = (a env).bind fun p => (match p.2 with
  | [(_, .int j)] => grd (small j) (.ok (p.1, (List.range j.toNat).map fun (i : Nat) => (true, .int (0 + i))))
  | _ => .bad) := rfl
theorem fRg2_ap : fRg2 a env = (a env).bind fun p => (match p.2 with
  | [(_, .int i), (_, .int j)] => grd (small i && small j) (.ok (p.1, (List.range (j - i).toNat).map fun (k : Nat) => (true, .int (i + k))))
  | _ => .bad) := rfl
theorem fFor_ap {x : FG} : fFor a x g env = (a env).bind fun p => fLoop x g p.2 p.1 := rfl
theorem fIfS_ap : fIfS t g h env = (t env).bind fun b => if b = true then g env else h env := rfl
@[simp] theorem callR_sh : callR env (.ok (.sh n d)) = .ok (env, .sh n d) := rfl
@[simp] theorem callR_nw : callR env (.ok (.nw n ds)) = .ok (env, .nw n ds) := rfl
@[simp] theorem callR_ex {e : Env} {x : Exn} : callR env (.ex e x) = .ex env x := rfl
theorem fCall_ap {S : SF} : fCall S a env = (a env).bind fun p => callR p.1 (S (p.2.map fun d => d.2)) := rfl
theorem fLc_ap {own : List Nat} {x : FG} : fLc own a x t v env = (a env).bind fun p => grd (okOwn p.1 own) ((fLcL own x t v p.2 (wipeE p.1 own) []).bind fun q => .ok (backE p.1 q.1 own, .nw (flags q.2) (datas q.2))) := rfl
theorem fB1_ap {o : GN} : fB1 o a env = (a env).bind fun p => (o p.2).bind fun r => .ok (p.1, r) := rfl
theorem fIsi_ap {T : String} : fIsi T v env = (v env).bind fun q => (match isT T q.2.2 with
  | some b => .ok (q.1, .sh true (.bool b))
  | none => .bad) := rfl
theorem fFmt_ap : fFmt v env = (v env).bind fun q => (match q.2.2 with
  | .str y => grd (decide (y.length ≤ 1000000)) (.ok (q.1, (true, .str y)))
  | .int i => grd (decide (i.natAbs < 2 ^ 60)) (.ok (q.1, (true, .str (Str.ofString (toString i)))))
  | _ => .bad) := rfl
theorem fJoined_ap {fs : List FV} : fJoined fs env = (fJs fs Str.empty env).bind fun q => .ok (q.1, .sh true (.str q.2)) := rfl
@[simp] theorem fJs_nil {acc : Str} : fJs [] acc env = .ok (env, acc) := rfl
@[simp] theorem fJs_cons {acc : Str} {fs : List FV} : fJs (v :: fs) acc env = (v env).bind fun q => (match q.2.2 with
  | .str y => grd (decide ((acc ++ y).length ≤ 1000000)) (fJs fs (acc ++ y) q.1)
  | _ => .bad) := rfl
theorem fJoin_ap : fJoin va vb env = (va env).bind fun q => (match q.2.2 with
  | .str a => (vb q.1).bind fun r => match gJoin a r.2.2 with
    | some z => .ok (r.1, .sh true (.str z))
    | none => .bad
  | _ => .bad) := rfl
theorem fPart_ap : fPart v env = (v env).bind fun q => (match q.2.2 with
  | .int i => .ok (q.1, some i)
  | _ => .bad) := rfl
theorem fSl_ap {fl fh : FO} : fSl v fl fh env = (v env).bind fun q => (fl q.1).bind fun l => (fh l.1).bind fun h => (gSl q.2 l.2 h.2).bind fun r => .ok (h.1, r) := rfl
theorem fFg_ap {is : List Nat} : fFg is g env = (g env).bind fun o => .ok (fgO is o) := rfl
@[simp] theorem fgO_nx {is : List Nat} : fgO is (.nx env) = .nx (wipeE env is) := rfl
@[simp] theorem fgO_bk {is : List Nat} : fgO is (.bk env) = .bk (wipeE env is) := rfl
@[simp] theorem fgO_ct {is : List Nat} : fgO is (.ct env) = .ct (wipeE env is) := rfl
@[simp] theorem fgO_rt {is : List Nat} {r : R} : fgO is (.rt r) = .rt r := rfl
@[simp] theorem wipeE_nil : wipeE env [] = env := rfl
@[simp] theorem backE_nil {e1 : Env} : backE e1 env [] = env := rfl
@[simp] theorem backE_cons {e1 : Env} {is : List Nat} : backE e1 env (i :: is) = pt (backE e1 env is) i (gt e1 i) := by rw [← pt_eq, ← gt_eq]; rfl
@[simp] theorem okOwn_nil : okOwn env [] = true := rfl
def okS : Option Sl → Bool
  | some (.sh _ _) => true
  | none => true
  | _ => false
@[simp] theorem okS_sh : okS (some (.sh n d)) = true := rfl
@[simp] theorem okS_none : okS none = true := rfl
@[simp] theorem okOwn_cons {is : List Nat} : okOwn env (i :: is) = (okS (gt env i) && okOwn env is) := by
  rw [← gt_eq]
  show ((match env.getD i none with
    | some (.sh _ _) => true
    | none => true
    | _ => false) && okOwn env is) = _
  cases env.getD i none with
  | none => rfl
  | some s => cases s <;> rfl
@[simp] theorem lent_nil : lent [] = [] := rfl
@[simp] theorem lent_none : lent (none :: env) = none :: lent env := rfl
@[simp] theorem lent_some {s : Sl} : lent (some s :: env) = some (.sh s.flag s.data) :: lent env := rfl
@[simp] theorem flag_sh : (Sl.sh n d).flag = n := rfl
@[simp] theorem flag_ow : (Sl.ow n ds).flag = n := rfl
@[simp] theorem flag_rg : (Sl.rg d).flag = true := rfl
@[simp] theorem flag_rl {ds : List PyData} : (Sl.rl ds).flag = true := rfl
@[simp] theorem data_rl {ds : List PyData} : (Sl.rl ds).data = .list ds := rfl
@[simp] theorem data_sh : (Sl.sh n d).data = d := rfl
@[simp] theorem data_ow : (Sl.ow n ds).data = .list ds := rfl
@[simp] theorem data_rg : (Sl.rg d).data = d := rfl
@[simp] theorem flags_nil : flags [] = true := rfl
@[simp] theorem flags_cons {p : Dv} {ps : List Dv} : flags (p :: ps) = (p.1 && flags ps) := rfl
@[simp] theorem datas_nil : datas [] = [] := rfl
@[simp] theorem datas_cons {p : Dv} {ps : List Dv} : datas (p :: ps) = p.2 :: datas ps := rfl
@[simp] theorem atom_none : atom .none = true := rfl
@[simp] theorem atom_int {i : Int} : atom (.int i) = true := rfl
@[simp] theorem atom_bool {b : Bool} : atom (.bool b) = true := rfl
@[simp] theorem atom_str {x : Str} : atom (.str x) = true := rfl
@[simp] theorem atom_list : atom (.list ds) = false := rfl
@[simp] theorem atom_tuple : atom (.tuple ds) = false := rfl
@[simp] theorem sc_ap : sc d = .ok (.sh true d) := rfl
@[simp] theorem gAdd_int {m : Bool} {x y : Int} : gAdd (n, .int x) (m, .int y) = .ok (.sh true (.int (x + y))) := rfl
@[simp] theorem gAdd_str {m : Bool} {x y : Str} : gAdd (n, .str x) (m, .str y) = grd (decide (x.length + y.length ≤ 1000000)) (.ok (.sh true (.str (x ++ y)))) := rfl
@[simp] theorem gAdd_list {m : Bool} {x y : List PyData} : gAdd (n, .list x) (m, .list y) = grd (decide (x.length + y.length ≤ 1000000)) (.ok (.nw (n && m) (x ++ y))) := rfl
@[simp] theorem gAdd_tuple {m : Bool} {x y : List PyData} : gAdd (n, .tuple x) (m, .tuple y) = grd (decide (x.length + y.length ≤ 1000000)) (.ok (.sh (n && m) (.tuple (x ++ y)))) := rfl
@[simp] theorem gIx_list {m : Bool} {i : Int} : gIx (n, .list ds) (m, .int i) = (match atI ds i with
    | some d => .ok (.sh (n || atom d) d)
    | none => .bad) := rfl
@[simp] theorem gIx_tuple {m : Bool} {i : Int} : gIx (n, .tuple ds) (m, .int i) = (match atI ds i with
    | some d => .ok (.sh (n || atom d) d)
    | none => .bad) := rfl
@[simp] theorem gIx_str {m : Bool} {i : Int} {x : Str} : gIx (n, .str x) (m, .int i) = (match atI x.cps.toList i with
    | some c => grd (decide (x.length ≤ 1000000)) (.ok (.sh true (.str ⟨#[c]⟩)))
    | none => .bad) := rfl
theorem gEqN_ap {neg : Bool} {p q : Dv} : gEqN neg p q = (match eqB p.2 q.2 with
  | some b => .ok (.sh true (.bool (if neg = true then !b else b)))
  | none => .bad) := rfl
@[simp] theorem eqB_int {a b : Int} : eqB (.int a) (.int b) = some (decide (a = b)) := rfl
@[simp] theorem eqB_str {a b : Str} : eqB (.str a) (.str b) = some (decide (a = b)) := rfl
@[simp] theorem eqB_bool {a b : Bool} : eqB (.bool a) (.bool b) = some (decide (a = b)) := rfl
@[simp] theorem eqB_nn : eqB .none .none = some true := rfl
@[simp] theorem eqB_ni {a : Int} : eqB .none (.int a) = some false := rfl
@[simp] theorem eqB_in {a : Int} : eqB (.int a) .none = some false := rfl
@[simp] theorem isNon_none : isNon .none = true := rfl
@[simp] theorem isNon_int {x : Int} : isNon (.int x) = false := rfl
@[simp] theorem isNon_list : isNon (.list ds) = false := rfl
@[simp] theorem isNon_tuple : isNon (.tuple ds) = false := rfl
@[simp] theorem isNon_str {x : Str} : isNon (.str x) = false := rfl
@[simp] theorem isNon_bool {x : Bool} : isNon (.bool x) = false := rfl
@[simp] theorem bLen_list : bLen (n, .list ds) = .ok (.sh true (.int ds.length)) := rfl
@[simp] theorem bLen_tuple : bLen (n, .tuple ds) = .ok (.sh true (.int ds.length)) := rfl
@[simp] theorem bLen_str {x : Str} : bLen (n, .str x) = grd (decide (x.length ≤ 1000000)) (.ok (.sh true (.int x.length))) := rfl
@[simp] theorem bInt_int {x : Int} : bInt (n, .int x) = .ok (.sh true (.int x)) := rfl
@[simp] theorem bInt_bool {x : Bool} : bInt (n, .bool x) = .ok (.sh true (.int (if x = true then 1 else 0))) := rfl
@[simp] theorem bStr_int {x : Int} : bStr (n, .int x) = grd (decide (x.natAbs < 2 ^ 60)) (.ok (.sh true (.str (Str.ofString (toString x))))) := rfl
@[simp] theorem bRepr_list : bRepr (n, .list ds) = grd (reprOk (.list ds)) (.ok (.sh true (.str (PyData.shown (.list ds))))) := rfl
@[simp] theorem bRepr_tuple : bRepr (n, .tuple ds) = grd (reprOk (.tuple ds)) (.ok (.sh true (.str (PyData.shown (.tuple ds))))) := rfl
@[simp] theorem isT_str_str {x : Str} : isT "str" (.str x) = some true := by show kitB "str" "str" = some true; decide +kernel
@[simp] theorem isT_list_list : isT "list" (.list ds) = some true := by show kitB "list" "list" = some true; decide +kernel
@[simp] theorem isT_tuple_tuple : isT "tuple" (.tuple ds) = some true := by show kitB "tuple" "tuple" = some true; decide +kernel
@[simp] theorem isT_bool_bool {b : Bool} : isT "bool" (.bool b) = some true := by show kitB "bool" "bool" = some true; decide +kernel
@[simp] theorem isT_int_int {b : Int} : isT "int" (.int b) = some true := by show kitB "int" "int" = some true; decide +kernel
@[simp] theorem isT_int_bool {b : Bool} : isT "int" (.bool b) = some true := by show kitB "bool" "int" = some true; decide +kernel
@[simp] theorem isT_int_str {b : Str} : isT "int" (.str b) = some false := by show kitB "str" "int" = some false; decide +kernel
@[simp] theorem isT_int_none : isT "int" .none = some false := by show kitB "NoneType" "int" = some false; decide +kernel
@[simp] theorem isT_bool_int {b : Int} : isT "bool" (.int b) = some false := by show kitB "int" "bool" = some false; decide +kernel
@[simp] theorem isT_bool_str {b : Str} : isT "bool" (.str b) = some false := by show kitB "str" "bool" = some false; decide +kernel
@[simp] theorem isT_bool_none : isT "bool" .none = some false := by show kitB "NoneType" "bool" = some false; decide +kernel
@[simp] theorem cPos_ap {a b : Int} : cPos a b = decide (0 < b) := rfl
end
section
variable {g : FG} {body : FS}
@[simp] theorem fLoop_nil {e : Env} : fLoop g body [] e = .ok (.nx e) := rfl
theorem fLoop_cons {e : Env} {x : Dv} {xs : List Dv} : fLoop g body (x :: xs) e = (g x e).bind fun e1 => (body e1).bind fun o => (match o with
    | .nx e2 => fLoop g body xs e2
    | .ct e2 => fLoop g body xs e2
    | .bk e2 => .ok (.nx e2)
    | .rt r => .ok (.rt r)) := rfl
theorem fLoop_at (E : Nat → Env) (xs : List Dv) (h : ∀ i x, xs[i]? = some x → (g x (E i)).bind body = .ok (.nx (E (i + 1)))) : fLoop g body xs (E 0) = .ok (.nx (E xs.length)) := by
  have key : ∀ (ys : List Dv) (k : Nat), xs.drop k = ys → fLoop g body ys (E k) = .ok (.nx (E (k + ys.length))) := by
    intro ys
    induction ys with
    | nil => intro k _; rfl
    | cons y ys ih =>
      intro k hk
      have hx : xs[k]? = some y := by
        have := congrArg (fun l => l[0]?) hk
        simpa [List.getElem?_drop] using this
      have h1 := h k y hx
      have hd : xs.drop (k + 1) = ys := by
        have := congrArg (List.drop 1) hk
        simpa [List.drop_drop, Nat.add_comm] using this
      have h2 := ih (k + 1) hd
      rw [fLoop_cons]
      cases q : g y (E k) with
      | bad => rw [q] at h1; cases h1
      | ex e z => rw [q] at h1; cases h1
      | ch _ _ => rw [q] at h1; cases h1
      | ok e1 =>
        rw [q] at h1
        have h1 : body e1 = .ok (.nx (E (k + 1))) := h1
        show (body e1).bind _ = _
        rw [h1]
        show fLoop g body ys (E (k + 1)) = _
        rw [h2, List.length_cons]
        congr 3; omega
  simpa using key xs 0 rfl
end
section
variable {own : List Nat} {g : FG} {t : FT} {el : FV}
@[simp] theorem fLcL_nil {e : Env} {acc : List Dv} : fLcL own g t el [] e acc = .ok (e, acc) := rfl
end
end Dn
namespace Dn
open PySem PySem.Spec L2 A1 A2 A3
def iat {α : Type} [Inhabited α] (xs : List α) (i : Int) : α := xs.getD i.toNat default
def ist {α : Type} (xs : List α) (i : Int) (x : α) : List α := xs.set i.toNat x
theorem iat_get {α : Type} [Inhabited α] {xs : List α} {i : Int} (h : 0 ≤ i ∧ i < xs.length) : xs[i.toNat]? = some (iat xs i) := by
  have hk : i.toNat < xs.length := by omega
  unfold iat
  rw [List.getD_eq_getElem?_getD, List.getElem?_eq_getElem hk]; rfl
theorem iat_mem {α : Type} [Inhabited α] {xs : List α} {i : Int} (h : 0 ≤ i ∧ i < xs.length) : iat xs i ∈ xs := List.mem_of_getElem? (iat_get h)
def wk (n : Bool) (ds : List PyData) : List Dv := ds.map fun d => (n, d)
def fmK {β : Type} (d : PyData) (k : Str → Rs β) : Rs β := match d with
  | .str y => grd (decide (y.length ≤ 1000000)) (k y)
  | .int i => grd (decide (i.natAbs < 2 ^ 60)) (k (Str.ofString (toString i)))
  | _ => .bad
def oK {β : Type} (o : Option Str) (k : Str → Rs β) : Rs β := match o with
  | some y => k y
  | none => .bad
def isK {β : Type} (o : Option Bool) (k : Bool → Rs β) : Rs β := match o with
  | some b => k b
  | none => .bad
@[simp ↓] theorem isK_s {β : Type} {b : Bool} {k : Bool → Rs β} : isK (some b) k = k b := id rfl
@[simp ↓] theorem isK_ii {β : Type} {i : Int} {k : Bool → Rs β} : isK (isT "int" (.int i)) k = k true := by rw [isT_int_int]; rfl
@[simp ↓] theorem isK_bi {β : Type} {i : Int} {k : Bool → Rs β} : isK (isT "bool" (.int i)) k = k false := by rw [isT_bool_int]; rfl
@[simp ↓] theorem isK_ss {β : Type} {i : Str} {k : Bool → Rs β} : isK (isT "str" (.str i)) k = k true := by rw [isT_str_str]; rfl
@[simp ↓] theorem isK_ll {β : Type} {i : List PyData} {k : Bool → Rs β} : isK (isT "list" (.list i)) k = k true := by rw [isT_list_list]; rfl
@[simp ↓] theorem isK_tt {β : Type} {i : List PyData} {k : Bool → Rs β} : isK (isT "tuple" (.tuple i)) k = k true := by rw [isT_tuple_tuple]; rfl
theorem map_snoc {α : Type} {c : α → PyData} {xs : List α} {x : α} : xs.map c ++ [c x] = (xs ++ [x]).map c := by rw [List.map_append]; rfl
theorem map_set {α : Type} {c : α → PyData} {xs : List α} {i : Nat} {x : α} : (xs.map c).set i (c x) = (xs.set i x).map c := by rw [List.map_set]
theorem ixN_in {n : Nat} {j : Int} (z : 0 ≤ j ∧ j < n) : ixN n j = some j.toNat := by unfold ixN; rw [if_pos z.1, if_pos z.2]
section
variable {β : Type}
abbrev HX (β : Type) := Env → Exn → Rs β
def on {α : Type} (r : Rs α) (h : HX β) (k : α → Rs β) : Rs β := match r with
  | .bad => .bad
  | .ok a => k a
  | .ex e x => h e x
  | .ch m f => .ch m fun i => on (f i) h k
def cE (f : FE) (env : Env) (h : HX β) (k : Env → R → Rs β) : Rs β := on (f env) h fun p => k p.1 p.2
def cV (f : FV) (env : Env) (h : HX β) (k : Env → Bool → PyData → Rs β) : Rs β := on (f env) h fun p => k p.1 p.2.1 p.2.2
def cT (f : FT) (env : Env) (h : HX β) (k : Bool → Rs β) : Rs β := on (f env) h k
def cA (f : FA) (env : Env) (h : HX β) (k : Env → List Dv → Rs β) : Rs β := on (f env) h fun p => k p.1 p.2
def cO (f : FS) (env : Env) (h : HX β) (k : Out → Rs β) : Rs β := on (f env) h k
def cR (r : Rs R) (h : HX β) (k : R → Rs β) : Rs β := on r h k
def cG (g : FG) (n : Bool) (d : PyData) (env : Env) (h : HX β) (k : Env → Rs β) : Rs β := on (g (n, d) env) h k
def cGs (g : FGs) (n : Bool) (ds : List PyData) (env : Env) (h : HX β) (k : Env → Rs β) : Rs β := on (g n ds env) h k
def cP (i : Nat) (env : Env) (s : Option Sl) (k : Env → Rs β) : Rs β := k (env.set i s)
def cC (r : Rs R) (e : Env) (h : HX β) (k : Env → R → Rs β) : Rs β := on (callR e r) h fun p => k p.1 p.2
def cL (g : FG) (body : FS) (xs : List Dv) (e : Env) (h : HX β) (k : Out → Rs β) : Rs β := on (fLoop g body xs e) h k
def cW (is : List Nat) (e : Env) (k : Env → Rs β) : Rs β := k (wipeE e is)
def cLc (own : List Nat) (g : FG) (t : FT) (el : FV) (xs : List Dv) (e : Env) (h : HX β) (k : Env → R → Rs β) : Rs β := grd (okOwn e own) (on (fLcL own g t el xs (wipeE e own) []) h fun q => k (backE e q.1 own) (.nw (flags q.2) (datas q.2)))
def ifK (b : Bool) (x y : Rs β) : Rs β := if b = true then x else y
def cBo (d : PyData) (k : Bool → Rs β) : Rs β := match d with
  | .bool b => k b
  | _ => .bad
theorem on_bind {α γ : Type} (r : Rs α) (q : α → Rs γ) (h : HX β) (k : γ → Rs β) : on (r.bind q) h k = on r h fun a => on (q a) h k := by
  induction r with
  | ch m f ih => exact congrArg (Rs.ch m) (funext ih)
  | _ => rfl
theorem on_ok {α : Type} (r : Rs α) : on r (fun e x => .ex e x) (fun a => .ok a) = r := by
  induction r with
  | ch m f ih => exact congrArg (Rs.ch m) (funext ih)
  | _ => rfl
theorem on_grd {α : Type} (b : Bool) (r : Rs α) (h : HX β) (k : α → Rs β) : on (grd b r) h k = grd b (on r h k) := by
  cases b <;> rfl
theorem on_if {α : Type} (b : Bool) (x y : Rs α) (h : HX β) (k : α → Rs β) : on (if b = true then x else y) h k = ifK b (on x h k) (on y h k) := by
  cases b <;> rfl
@[simp ↓] theorem ifK_t {x y : Rs β} : ifK true x y = x := id rfl
@[simp ↓] theorem ifK_f {x y : Rs β} : ifK false x y = y := id rfl
@[simp ↓] theorem ifK_n {b : Bool} {x y : Rs β} : ifK (!b) x y = ifK b y x := by cases b <;> rfl
@[simp ↓] theorem ifK_p {p : Prop} [Decidable p] {x y : Rs β} (h : p) : ifK (decide p) x y = x := by rw [decide_eq_true h]; rfl
@[simp ↓] theorem ifK_m {p : Prop} [Decidable p] {x y : Rs β} (h : ¬ p) : ifK (decide p) x y = y := by rw [decide_eq_false h]; rfl
@[simp ↓] theorem grd_t {r : Rs β} : grd true r = r := id rfl
@[simp ↓] theorem grd_p {p : Prop} [Decidable p] {r : Rs β} (h : p) : grd (decide p) r = r := by rw [decide_eq_true h]; rfl
@[simp ↓ high] theorem grd_lm {α : Type} {c : α → PyData} {xs : List α} {j : Nat} {r : Rs β} : grd (decide ((xs.map c).length < j)) r = grd (decide (xs.length < j)) r := by rw [List.length_map]
@[simp ↓] theorem grd_a {a b : Bool} {r : Rs β} : grd (a && b) r = grd a (grd b r) := by cases a <;> rfl
@[simp ↓] theorem cBo_b {b : Bool} {k : Bool → Rs β} : cBo (.bool b) k = k b := id rfl
end
section
variable {β : Type} {h : HX β} {env e : Env} {n m : Bool} {d : PyData} {ds : List PyData} {f fa fb : FE} {v va vb : FV} {t u : FT} {a : FA} {p q : FS}
theorem turn_eq {g : FG} {body : FS} : (g (n, d) env).bind body = cG g n d env (fun e x => .ex e x) fun e1 => cO body e1 (fun e x => .ex e x) fun o => .ok o := by
  unfold cG cO
  generalize g (n, d) env = r
  induction r with
  | bad => rfl
  | ok e1 => exact (on_ok _).symm
  | ex e x => rfl
  | ch m f ih => exact congrArg (Rs.ch m) (funext ih)
def finO : Out → Rs R
  | .rt (.sh n d) => .ok (.sh n d)
  | .rt (.nw n ds) => .ok (.nw n ds)
  | .nx _ => .ok (.sh true .none)
  | _ => .bad
@[simp ↓] theorem finO_sh : finO (.rt (.sh n d)) = .ok (.sh n d) := id rfl
@[simp ↓] theorem finO_nw : finO (.rt (.nw n ds)) = .ok (.nw n ds) := id rfl
@[simp ↓] theorem finO_nx : finO (.nx e) = .ok (.sh true .none) := id rfl
theorem run_eq {N np : Nat} {body : FS} {E : Env} (hl : ds.length = np) (he : envOf N np ds = E) : runF N np body ds = cO body E (fun e x => .ex e x) finO := by
  unfold runF cO
  rw [hl, he, decide_eq_true rfl]
  show (body E).bind _ = _
  generalize body E = r
  induction r with
  | bad => rfl
  | ex e x => rfl
  | ch m f ih => exact congrArg (Rs.ch m) (funext ih)
  | ok o =>
    show _ = finO o
    cases o with
    | rt r => cases r <;> rfl
    | nx e => rfl
    | bk e => rfl
    | ct e => rfl
@[simp ↓] theorem cE_c {k : Env → R → Rs β} : cE (fC d) env h k = k env (.sh true d) := id rfl
@[simp ↓] theorem cV_rc {k : Env → Bool → PyData → Rs β} : cV (rd (fC d)) env h k = k env true d := id rfl
@[simp ↓] theorem cV_sc {k : Env → Bool → PyData → Rs β} : cV (st (fC d)) env h k = k env true d := id rfl
def rdK (e : Env) (r : R) (h : HX β) (k : Env → Bool → PyData → Rs β) : Rs β := on (rdR (e, r)) h fun p => k p.1 p.2.1 p.2.2
def stK (e : Env) (r : R) (h : HX β) (k : Env → Bool → PyData → Rs β) : Rs β := on (stR (e, r)) h fun p => k p.1 p.2.1 p.2.2
@[simp ↓] theorem rdK_sh {k : Env → Bool → PyData → Rs β} : rdK e (.sh n d) h k = k e n d := id rfl
@[simp ↓] theorem rdK_nw {k : Env → Bool → PyData → Rs β} : rdK e (.nw n ds) h k = k e n (.list ds) := id rfl
@[simp ↓] theorem stK_sh {k : Env → Bool → PyData → Rs β} : stK e (.sh n d) h k = k e n d := id rfl
@[simp ↓] theorem stK_nw {k : Env → Bool → PyData → Rs β} : stK e (.nw n ds) h k = k e n (.list ds) := id rfl
@[simp ↓ low] theorem cV_rd {k : Env → Bool → PyData → Rs β} : cV (rd f) env h k = cE f env h fun e r => rdK e r h k := by
  unfold cV cE rdK; rw [rd_ap, on_bind]
@[simp ↓ low] theorem cV_st {k : Env → Bool → PyData → Rs β} : cV (st f) env h k = cE f env h fun e r => stK e r h k := by
  unfold cV cE stK; rw [st_ap, on_bind]
@[simp ↓] theorem cE_2 {o : G2} {k : Env → R → Rs β} : cE (f2 o va vb) env h k = cV va env h fun e n d => cV vb e h fun e m d' => cR (o (n, d) (m, d')) h fun r => k e r := by
  unfold cE cV cR
  rw [f2_ap, on_bind]
  refine congrArg _ (funext fun p => ?_)
  rw [on_bind]
  refine congrArg _ (funext fun q => ?_)
  rw [on_bind]; rfl
@[simp ↓] theorem cE_1 {o : G1} {k : Env → R → Rs β} : cE (f1 o va) env h k = cV va env h fun e n d => cR (o (n, d)) h fun r => k e r := by
  unfold cE cV cR
  rw [f1_ap, on_bind]
  refine congrArg _ (funext fun p => ?_)
  rw [on_bind]; rfl
@[simp ↓] theorem cE_b {o : GN} {k : Env → R → Rs β} : cE (fB1 o a) env h k = cA a env h fun e ps => cR (o ps) h fun r => k e r := by
  unfold cE cA cR
  rw [fB1_ap, on_bind]
  refine congrArg _ (funext fun p => ?_)
  rw [on_bind]; rfl
@[simp ↓] theorem cR_g1 {o : G1} {x : Dv} {k : R → Rs β} : cR (g1 o [x]) h k = cR (o x) h k := id rfl
@[simp ↓] theorem cA_nil {k : Env → List Dv → Rs β} : cA fNil env h k = k env [] := id rfl
@[simp ↓] theorem cA_cons {k : Env → List Dv → Rs β} : cA (fCons v a) env h k = cV v env h fun e n d => cA a e h fun e ps => k e ((n, d) :: ps) := by
  unfold cA cV
  rw [fCons_ap, on_bind]
  refine congrArg _ (funext fun p => ?_)
  rw [on_bind]; rfl
def cTu : List Dv → Nat → (Bool → List PyData → Rs β) → Rs β
  | [], j, k => grd (decide (j ≤ 10000)) (k true [])
  | (n, d) :: ps, j, k => cTu ps (j + 1) fun m ds => k (n && m) (d :: ds)
@[simp ↓] theorem cTu_n {j : Nat} {k : Bool → List PyData → Rs β} : cTu [] j k = grd (decide (j ≤ 10000)) (k true []) := id rfl
@[simp ↓] theorem cTu_c {j : Nat} {ps : List Dv} {k : Bool → List PyData → Rs β} : cTu ((n, d) :: ps) j k = cTu ps (j + 1) fun m ds => k (n && m) (d :: ds) := id rfl
theorem cTu_eq : ∀ (ps : List Dv) (j : Nat) (k : Bool → List PyData → Rs β), cTu ps j k = grd (decide (j + ps.length ≤ 10000)) (k (flags ps) (datas ps))
  | [], j, k => rfl
  | (n, d) :: ps, j, k => by
    show cTu ps (j + 1) (fun m ds => k (n && m) (d :: ds)) = _
    rw [cTu_eq ps (j + 1), List.length_cons, show j + 1 + ps.length = j + (ps.length + 1) by omega]; rfl
@[simp ↓] theorem cE_tup {k : Env → R → Rs β} : cE (fTup a) env h k = cA a env h fun e ps => cTu ps 0 fun m ds => k e (.sh m (.tuple ds)) := by
  unfold cE cA
  rw [fTup_ap, on_bind]
  refine congrArg _ (funext fun p => ?_)
  rw [on_grd]
  dsimp only
  rw [cTu_eq, Nat.zero_add]; rfl
@[simp ↓] theorem cE_lst {k : Env → R → Rs β} : cE (fLst a) env h k = cA a env h fun e ps => cTu ps 0 fun m ds => k e (.nw m ds) := by
  unfold cE cA
  rw [fLst_ap, on_bind]
  refine congrArg _ (funext fun p => ?_)
  rw [on_grd]
  dsimp only
  rw [cTu_eq, Nat.zero_add]; rfl
@[simp ↓] theorem cE_if {k : Env → R → Rs β} : cE (fIf t fa fb) env h k = cT t env h fun b => ifK b (cE fa env h k) (cE fb env h k) := by
  unfold cE cT
  rw [fIf_ap, on_bind]
  refine congrArg _ (funext fun b => ?_)
  rw [on_if]
def cD {γ : Type} : List Dv → (List PyData → Rs γ) → Rs γ
  | [], k => k []
  | (_, d) :: ps, k => cD ps fun ds => k (d :: ds)
@[simp ↓] theorem cD_n {k : List PyData → Rs β} : cD [] k = k [] := id rfl
@[simp ↓] theorem cD_c {ps : List Dv} {k : List PyData → Rs β} : cD ((n, d) :: ps) k = cD ps fun ds => k (d :: ds) := id rfl
theorem cD_eq : ∀ (ps : List Dv) (k : List PyData → Rs β), cD ps k = k (ps.map (·.2))
  | [], k => rfl
  | (n, d) :: ps, k => by
    show cD ps (fun ds => k (d :: ds)) = _
    rw [cD_eq ps]; rfl
theorem cCs {r : Rs R} {k : Env → R → Rs β} (z : r = .ok (.sh n d)) : cC r e h k = k e (.sh n d) := by rw [z]; rfl
theorem cCn {r : Rs R} {k : Env → R → Rs β} (z : r = .ok (.nw n ds)) : cC r e h k = k e (.nw n ds) := by rw [z]; rfl
@[simp ↓] theorem cE_call {S : SF} {k : Env → R → Rs β} : cE (fCall S a) env h k = cA a env h fun e ps => cD ps fun ds => cC (S ds) e h k := by
  unfold cE cA
  rw [fCall_ap, on_bind]
  refine congrArg _ (funext fun p => ?_)
  dsimp only
  rw [cD_eq]; rfl
@[simp ↓] theorem cE_isi {T : String} {k : Env → R → Rs β} : cE (fIsi T v) env h k = cV v env h fun e n d => isK (isT T d) fun b => k e (.sh true (.bool b)) := by
  unfold cE cV
  rw [fIsi_ap, on_bind]
  refine congrArg _ (funext fun p => ?_)
  show _ = isK (isT T p.2.2) fun b => k p.1 (.sh true (.bool b))
  cases isT T p.2.2 <;> rfl
@[simp ↓] theorem cE_lc {own : List Nat} {g : FG} {k : Env → R → Rs β} : cE (fLc own a g t v) env h k = cA a env h fun e xs => cLc own g t v xs e h k := by
  unfold cE cA cLc
  rw [fLc_ap, on_bind]
  refine congrArg _ (funext fun p => ?_)
  rw [on_grd, on_bind]; rfl
theorem cLc_ok {own : List Nat} {g : FG} {xs acc : List Dv} {e e1 e2 : Env} {k : Env → R → Rs β} (h2 : fLcL own g t v xs (wipeE e own) [] = .ok (e1, acc)) (h1 : okOwn e own = true) (h3 : backE e e1 own = e2) : cLc own g t v xs e h k = k e2 (.nw (flags acc) (datas acc)) := by
  unfold cLc
  rw [h1, h2, ← h3]; rfl
def cF (fs : List FV) (acc : Str) (env : Env) (h : HX β) (k : Env → Str → Rs β) : Rs β := on (fJs fs acc env) h fun p => k p.1 p.2
@[simp ↓] theorem cE_js {fs : List FV} {k : Env → R → Rs β} : cE (fJoined fs) env h k = cF fs Str.empty env h fun e y => k e (.sh true (.str y)) := by
  unfold cE cF
  rw [fJoined_ap, on_bind]
  rfl
@[simp ↓] theorem cF_nil {acc : Str} {k : Env → Str → Rs β} : cF [] acc env h k = k env acc := id rfl
def sK (d : PyData) (k : Str → Rs β) : Rs β := match d with
  | .str y => k y
  | _ => .bad
@[simp ↓] theorem sK_s {y : Str} {k : Str → Rs β} : sK (.str y) k = k y := id rfl
@[simp ↓] theorem cF_cons {acc : Str} {fs : List FV} {k : Env → Str → Rs β} : cF (v :: fs) acc env h k = cV v env h fun e n d => sK d fun y => grd (decide ((acc ++ y).length ≤ 1000000)) (cF fs (acc ++ y) e h k) := by
  unfold cF cV
  rw [fJs_cons, on_bind]
  refine congrArg _ (funext fun p => ?_)
  obtain ⟨e, n, d⟩ := p
  cases d <;> first | rfl | exact on_grd _ _ _ _
@[simp ↓] theorem cV_fmt {k : Env → Bool → PyData → Rs β} : cV (fFmt v) env h k = cV v env h fun e n d => fmK d fun y => k e true (.str y) := by
  unfold cV
  rw [fFmt_ap, on_bind]
  refine congrArg _ (funext fun p => ?_)
  obtain ⟨e, n, d⟩ := p
  cases d <;> first | rfl | exact on_grd _ _ _ _
@[simp ↓] theorem cE_join {k : Env → R → Rs β} : cE (fJoin va vb) env h k = cV va env h fun e n d => sK d fun y => cV vb e h fun e m d' => oK (gJoin y d') fun z => k e (.sh true (.str z)) := by
  unfold cE cV
  rw [fJoin_ap, on_bind]
  refine congrArg _ (funext fun p => ?_)
  obtain ⟨e, n, d⟩ := p
  cases d with
  | str y =>
    show on ((vb e).bind _) _ _ = on (vb e) _ _
    rw [on_bind]
    refine congrArg _ (funext fun p => ?_)
    show _ = oK (gJoin y p.2.2) fun z => k p.1 (.sh true (.str z))
    cases gJoin y p.2.2 <;> rfl
  | _ => rfl
def cOp (f : FO) (env : Env) (h : HX β) (k : Env → Option Int → Rs β) : Rs β := on (f env) h fun p => k p.1 p.2
@[simp ↓] theorem cOp_no {k : Env → Option Int → Rs β} : cOp fNo env h k = k env none := id rfl
def iK (d : PyData) (k : Int → Rs β) : Rs β := match d with
  | .int y => k y
  | _ => .bad
@[simp ↓] theorem iK_i {y : Int} {k : Int → Rs β} : iK (.int y) k = k y := id rfl
@[simp ↓] theorem cOp_some {k : Env → Option Int → Rs β} : cOp (fPart v) env h k = cV v env h fun e n d => iK d fun i => k e (some i) := by
  unfold cOp cV
  rw [fPart_ap, on_bind]
  refine congrArg _ (funext fun p => ?_)
  obtain ⟨e, n, d⟩ := p
  cases d <;> rfl
@[simp ↓] theorem cE_sl {fl fh : FO} {k : Env → R → Rs β} : cE (fSl v fl fh) env h k = cV v env h fun e n d => cOp fl e h fun e lo => cOp fh e h fun e hi => cR (gSl (n, d) lo hi) h fun r => k e r := by
  unfold cE cV cOp cR
  rw [fSl_ap, on_bind]
  refine congrArg _ (funext fun p => ?_)
  rw [on_bind]
  refine congrArg _ (funext fun q => ?_)
  rw [on_bind]
  refine congrArg _ (funext fun q => ?_)
  rw [on_bind]; rfl
@[simp ↓] theorem cR_sl {lo hi : Option Int} {k : R → Rs β} : cR (gSl (n, .list ds) lo hi) h k = k (.nw n (cutD ds lo hi)) := id rfl
@[simp ↓] theorem cR_st {lo hi : Option Int} {k : R → Rs β} : cR (gSl (n, .tuple ds) lo hi) h k = k (.sh n (.tuple (cutD ds lo hi))) := id rfl
@[simp ↓] theorem cT_yes {k : Bool → Rs β} : cT fYes env h k = k true := id rfl
@[simp ↓] theorem cT_b {k : Bool → Rs β} : cT (fB v) env h k = cV v (lent env) (fun _ x => h env x) fun _ _ d => cBo d k := by
  unfold cT cV
  rw [fB_ap]
  generalize v (lent env) = r
  induction r with
  | bad => rfl
  | ex e x => rfl
  | ch m f ih => exact congrArg (Rs.ch m) (funext ih)
  | ok p =>
    obtain ⟨e, n, d⟩ := p
    cases d <;> rfl
@[simp ↓] theorem cT_not {k : Bool → Rs β} : cT (fNot t) env h k = cT t env h fun b => k (!b) := by
  unfold cT
  rw [fNot_ap, on_bind]; rfl
@[simp ↓] theorem cT_and {k : Bool → Rs β} : cT (fAnd t u) env h k = cT t env h fun b => ifK b (cT u env h k) (k false) := by
  unfold cT
  rw [fAnd_ap, on_bind]
  refine congrArg _ (funext fun b => ?_)
  rw [on_if]; rfl
@[simp ↓] theorem cT_or {k : Bool → Rs β} : cT (fOr t u) env h k = cT t env h fun b => ifK b (k true) (cT u env h k) := by
  unfold cT
  rw [fOr_ap, on_bind]
  refine congrArg _ (funext fun b => ?_)
  rw [on_if]; rfl
def seK (q : FS) (h : HX β) (k : Out → Rs β) (o : Out) : Rs β := match o with
  | .nx e => cO q e h k
  | o => k o
@[simp ↓] theorem seK_nx {k : Out → Rs β} : seK q h k (.nx e) = cO q e h k := id rfl
@[simp ↓] theorem seK_rt {k : Out → Rs β} {r : R} : seK q h k (.rt r) = k (.rt r) := id rfl
@[simp ↓] theorem cO_seq {k : Out → Rs β} : cO (fSeq p q) env h k = cO p env h (seK q h k) := by
  unfold cO
  rw [fSeq_ap, on_bind]
  refine congrArg _ (funext fun o => ?_)
  cases o <;> rfl
@[simp ↓] theorem cO_next {k : Out → Rs β} : cO fNext env h k = k (.nx env) := id rfl
@[simp ↓] theorem cO_drop {k : Out → Rs β} : cO (fDrop f) env h k = cE f env h fun e _ => k (.nx e) := by
  unfold cO cE
  rw [fDrop_ap, on_bind]; rfl
def reK (e : Env) (r : R) (h : HX β) (k : Out → Rs β) : Rs β := on (retR (e, r)) h k
@[simp ↓] theorem reK_sh {k : Out → Rs β} : reK e (.sh n d) h k = k (.rt (.sh n d)) := id rfl
@[simp ↓] theorem reK_nw {k : Out → Rs β} : reK e (.nw n ds) h k = k (.rt (.nw n ds)) := id rfl
@[simp ↓] theorem cO_ret {k : Out → Rs β} : cO (fRet f) env h k = cE f env h fun e r => reK e r h k := by
  unfold cO cE reK
  rw [fRet_ap, on_bind]
def puK (i : Nat) (e : Env) (r : R) (h : HX β) (k : Env → Rs β) : Rs β := on (put i (e, r)) h k
@[simp ↓] theorem puK_sh {i : Nat} {k : Env → Rs β} : puK i e (.sh n d) h k = cP i e (some (.sh n d)) k := id rfl
@[simp ↓] theorem puK_nw {i : Nat} {k : Env → Rs β} : puK i e (.nw n ds) h k = cP i e (some (.ow n ds)) k := id rfl
@[simp ↓] theorem cO_set {i : Nat} {k : Out → Rs β} : cO (fSet i f) env h k = cE f env h fun e r => puK i e r h fun e => k (.nx e) := by
  unfold cO cE puK
  rw [fSet_ap, on_bind]
  refine congrArg _ (funext fun p => ?_)
  rw [on_bind]; rfl
@[simp ↓] theorem cG_n {i : Nat} {k : Env → Rs β} : cG (gN i) n d env h k = cP i env (some (.sh (n || atom d) d)) k := id rfl
@[simp ↓] theorem cGs_n {k : Env → Rs β} : cGs gsN n [] env h k = k env := id rfl
@[simp ↓] theorem cGs_c {x : FG} {y : FGs} {k : Env → Rs β} : cGs (gsC x y) n (d :: ds) env h k = cG x n d env h fun e => cGs y n ds e h k := by
  unfold cGs cG
  rw [gsC_ap, on_bind]
@[simp ↓] theorem cG_t {x : FGs} {j : Nat} {k : Env → Rs β} : cG (gT j x) n (.tuple ds) env h k = grd (decide (ds.length = j)) (cGs x n ds env h k) := by
  unfold cGs cG
  rw [gT_ap, on_grd]
@[simp ↓] theorem cO_asg {x : FG} {k : Out → Rs β} : cO (fAsg x v) env h k = cV v env h fun e n d => cG x n d e h fun e => k (.nx e) := by
  unfold cO cV cG
  rw [fAsg_ap, on_bind]
  refine congrArg _ (funext fun p => ?_)
  rw [on_bind]; rfl
def apK (i : Nat) (e : Env) (n : Bool) (d : PyData) (h : HX β) (k : Out → Rs β) : Rs β := on (appS e i (n, d) (gt e i)) h k
@[simp ↓] theorem cO_app {i : Nat} {k : Out → Rs β} : cO (fApp i v) env h k = grd (isOw (gt env i)) (cV v env h fun e n d => apK i e n d h k) := by
  unfold cO cV apK
  rw [fApp_ap, on_grd, on_bind]
def siK (i : Nat) (e : Env) (n : Bool) (d kd : PyData) (h : HX β) (k : Out → Rs β) : Rs β := on (setS e i (n, d) kd (gt e i)) h k
@[simp ↓] theorem cO_putIx {i : Nat} {k : Out → Rs β} : cO (fPutIx i va vb) env h k = cV vb env h fun e n d => grd (isOw (gt e i)) (cV va e h fun e _ d' => siK i e n d d' h k) := by
  unfold cO cV siK
  rw [fPutIx_ap, on_bind]
  refine congrArg _ (funext fun p => ?_)
  rw [on_grd, on_bind]
@[simp ↓] theorem cO_ifs {k : Out → Rs β} : cO (fIfS t p q) env h k = cT t env h fun b => ifK b (cO p env h k) (cO q env h k) := by
  unfold cO cT
  rw [fIfS_ap, on_bind]
  refine congrArg _ (funext fun b => ?_)
  rw [on_if]
@[simp ↓] theorem cO_for {g : FG} {k : Out → Rs β} : cO (fFor a g p) env h k = cA a env h fun e xs => cL g p xs e h k := by
  unfold cO cA cL
  rw [fFor_ap, on_bind]
theorem cL_ok {g : FG} {xs : List Dv} {o : Out} {k : Out → Rs β} (z : fLoop g p xs e = .ok o) : cL g p xs e h k = k o := by unfold cL; rw [z]; rfl
def fgK (is : List Nat) (k : Out → Rs β) (o : Out) : Rs β := k (fgO is o)
@[simp ↓] theorem fgK_nx {is : List Nat} {k : Out → Rs β} : fgK is k (.nx e) = cW is e fun e => k (.nx e) := id rfl
@[simp ↓] theorem fgK_rt {is : List Nat} {r : R} {k : Out → Rs β} : fgK is k (.rt r) = k (.rt r) := id rfl
@[simp ↓] theorem cO_fg {is : List Nat} {k : Out → Rs β} : cO (fFg is p) env h k = cO p env h (fgK is k) := by
  unfold cO
  rw [fFg_ap, on_bind]; rfl
theorem wipe_rev {is : List Nat} : ∀ (e : Env) (i : Nat), wipeE (e.set i none) is = (wipeE e is).set i none := by
  induction is with
  | nil => exact fun _ _ => rfl
  | cons j js ih =>
    intro e i
    show (wipeE (e.set i none) js).set j none = ((wipeE e js).set j none).set i none
    rw [ih]
    by_cases z : i = j
    · rw [z]
    · exact List.set_comm _ _ z
@[simp ↓] theorem cW_nil {k : Env → Rs β} : cW [] e k = k e := id rfl
@[simp ↓] theorem cW_cons {i : Nat} {is : List Nat} {k : Env → Rs β} : cW (i :: is) e k = cP i e none fun e => cW is e k := by
  show k ((wipeE e is).set i none) = k (wipeE (e.set i none) is)
  rw [wipe_rev]
def itK (e : Env) (n : Bool) (d : PyData) (h : HX β) (k : Env → List Dv → Rs β) : Rs β := match d with
  | .list ds => k e (ds.map fun d => (n, d))
  | .tuple ds => k e (ds.map fun d => (n, d))
  | .str x => k e (x.cps.toList.map fun c => (true, .str ⟨#[c]⟩))
  | .dict q => (match dictKeys (.dict q) with
    | some ks => k e (wk n ks)
    | none => .bad)
  | _ => .bad
@[simp ↓] theorem itK_l {k : Env → List Dv → Rs β} : itK e n (.list ds) h k = k e (wk n ds) := id rfl
@[simp ↓] theorem itK_t {k : Env → List Dv → Rs β} : itK e n (.tuple ds) h k = k e (wk n ds) := id rfl
@[simp ↓] theorem itK_s {x : Str} {k : Env → List Dv → Rs β} : itK e n (.str x) h k = k e (wk true (x.cps.toList.map fun c => .str ⟨#[c]⟩)) := by
  show k e (x.cps.toList.map fun c => (true, .str ⟨#[c]⟩)) = _
  unfold wk; rw [List.map_map]; rfl
@[simp ↓] theorem cA_it {k : Env → List Dv → Rs β} : cA (fIt v) env h k = cV v env h fun e n d => itK e n d h k := by
  unfold cA cV
  rw [fIt_ap, on_bind]
  refine congrArg _ (funext fun p => ?_)
  obtain ⟨e, n, d⟩ := p
  cases d with
  | dict q =>
    show on (match dictKeys (.dict q) with | some ks => .ok (e, ks.map fun d => (n, d)) | none => .bad) h (fun p => k p.1 p.2) = (match dictKeys (.dict q) with | some ks => k e (wk n ks) | none => .bad)
    cases dictKeys (.dict q) <;> rfl
  | _ => rfl
def rg1K (e : Env) (ps : List Dv) (h : HX β) (k : Env → List Dv → Rs β) : Rs β := match ps with
  | [(_, .int j)] => grd (small j) (k e ((List.range j.toNat).map fun (i : Nat) => (true, .int (0 + i))))
  | _ => .bad
@[simp ↓] theorem rg1K_i {j : Int} {k : Env → List Dv → Rs β} : rg1K e [(n, .int j)] h k = grd (small j) (k e (wk true ((List.range j.toNat).map fun (i : Nat) => .int (i : Int)))) := by
  show grd (small j) (k e ((List.range j.toNat).map fun (i : Nat) => (true, .int (0 + i)))) = _
  unfold wk; rw [List.map_map]; simp only [Int.zero_add]; rfl
theorem rg1_eq (b : Env × List Dv) (k : Env → List Dv → Rs β) : on (match b.2 with
    | [(_, .int j)] => grd (small j) (.ok (b.1, (List.range j.toNat).map fun (i : Nat) => ((true, .int (0 + i)) : Dv)))
    | _ => .bad) h (fun p => k p.1 p.2) = rg1K b.1 b.2 h k := by
  unfold rg1K
  split
  · exact on_grd _ _ _ _
  · rfl
@[simp ↓] theorem cA_rg1 {k : Env → List Dv → Rs β} : cA (fRg1 a) env h k = cA a env h fun e ps => rg1K e ps h k := by
  unfold cA
  rw [fRg1_ap, on_bind]
  exact congrArg _ (funext fun p => rg1_eq p k)
def rg2K (e : Env) (ps : List Dv) (h : HX β) (k : Env → List Dv → Rs β) : Rs β := match ps with
  | [(_, .int i), (_, .int j)] => grd (small i && small j) (k e ((List.range (j - i).toNat).map fun (x : Nat) => (true, .int (i + x))))
  | _ => .bad
@[simp ↓] theorem rg2K_i {i j : Int} {k : Env → List Dv → Rs β} : rg2K e [(n, .int i), (m, .int j)] h k = grd (small i && small j) (k e (wk true ((List.range (j - i).toNat).map fun (x : Nat) => .int (i + (x : Int))))) := by
  show grd (small i && small j) (k e ((List.range (j - i).toNat).map fun (x : Nat) => (true, .int (i + x)))) = _
  unfold wk; rw [List.map_map]; rfl
theorem rg2_eq (b : Env × List Dv) (k : Env → List Dv → Rs β) : on (match b.2 with
    | [(_, .int i), (_, .int j)] => grd (small i && small j) (.ok (b.1, (List.range (j - i).toNat).map fun (x : Nat) => ((true, .int (i + x)) : Dv)))
    | _ => .bad) h (fun p => k p.1 p.2) = rg2K b.1 b.2 h k := by
  unfold rg2K
  split
  · exact on_grd _ _ _ _
  · rfl
@[simp ↓] theorem cA_rg2 {k : Env → List Dv → Rs β} : cA (fRg2 a) env h k = cA a env h fun e ps => rg2K e ps h k := by
  unfold cA
  rw [fRg2_ap, on_bind]
  exact congrArg _ (funext fun p => rg2_eq p k)
theorem small_ok {i : Int} (h : -(2 ^ 62) ≤ i ∧ i < 2 ^ 62) : small i = true := by
  unfold small; rw [decide_eq_true h.1, decide_eq_true h.2]; rfl
@[simp ↓] theorem grd_small {i : Int} {r : Rs β} (z : -4611686018427387904 ≤ i ∧ i < 4611686018427387904) : grd (small i) r = r := by
  rw [small_ok (by omega)]; rfl
@[simp ↓] theorem cR_I {c : Int → Int → Bool} {g : Int → Int → PyData} {i j : Int} {k : R → Rs β} : cR (gI c g (n, .int i) (m, .int j)) h k = grd (c i j) (k (.sh true (g i j))) := on_grd _ _ _ _
@[simp ↓ high] theorem cR_p18 {k : R → Rs β} : cR (gPow (n, .int 10) (m, .int 18)) h k = k (.sh true (.int 1000000000000000000)) := by
  have z : cPow 10 18 = true := by decide
  have y : (10 : Int) ^ (18 : Int).toNat = 1000000000000000000 := by decide
  show on (grd (cPow 10 18) (.ok (.sh true (.int ((10 : Int) ^ (18 : Int).toNat))))) h k = _
  rw [z, y]; rfl
@[simp ↓] theorem cR_mul {i j : Int} {k : R → Rs β} : cR (gMul (n, .int i) (m, .int j)) h k = grd (cMul i j) (k (.sh true (.int (i * j)))) := on_grd _ _ _ _
@[simp ↓] theorem grd_pos {i j : Int} {r : Rs β} (z : 0 < j) : grd (cPos i j) r = r := by unfold cPos; rw [decide_eq_true z]; rfl
@[simp ↓] theorem grd_div {i j : Int} {r : Rs β} (z : 0 < j ∧ j < 1073741824) : grd (cDiv i j) r = r := by unfold cDiv; rw [decide_eq_true z.1, decide_eq_true z.2]; rfl
@[simp ↓] theorem grd_mulr {i j : Int} {r : Rs β} (z : -18446744073709551616 < j ∧ j < 18446744073709551616) : grd (cMul i j) r = r := by
  unfold cMul; rw [decide_eq_true (p := -(2 ^ 64) < j) (by omega), decide_eq_true (p := j < 2 ^ 64) (by omega)]; simp [grd]
@[simp ↓] theorem grd_pow {i j : Int} {r : Rs β} (z : 0 ≤ j ∧ j ≤ 1000 ∧ -18446744073709551616 < i ∧ i < 18446744073709551616) : grd (cPow i j) r = r := by
  unfold cPow; rw [decide_eq_true z.1, decide_eq_true z.2.1, decide_eq_true (p := i.natAbs < 2 ^ 64) (by omega)]; rfl
@[simp ↓] theorem cR_addI {i j : Int} {k : R → Rs β} : cR (gAdd (n, .int i) (m, .int j)) h k = k (.sh true (.int (i + j))) := id rfl
@[simp ↓] theorem cR_addS {x y : Str} {k : R → Rs β} : cR (gAdd (n, .str x) (m, .str y)) h k = grd (decide (x.length + y.length ≤ 1000000)) (k (.sh true (.str (x ++ y)))) := on_grd _ _ _ _
@[simp ↓] theorem cR_addL {x y : List PyData} {k : R → Rs β} : cR (gAdd (n, .list x) (m, .list y)) h k = grd (decide (x.length + y.length ≤ 1000000)) (k (.nw (n && m) (x ++ y))) := on_grd _ _ _ _
@[simp ↓] theorem cR_addT {x y : List PyData} {k : R → Rs β} : cR (gAdd (n, .tuple x) (m, .tuple y)) h k = grd (decide (x.length + y.length ≤ 1000000)) (k (.sh (n && m) (.tuple (x ++ y)))) := on_grd _ _ _ _
def ixK (n : Bool) (o : Option PyData) (k : R → Rs β) : Rs β := match o with
  | some d => k (.sh (n || atom d) d)
  | none => .bad
@[simp ↓] theorem ixK_s {k : R → Rs β} : ixK n (some d) k = k (.sh (n || atom d) d) := id rfl
@[simp ↓ low] theorem cR_ixL {i : Int} {k : R → Rs β} : cR (gIx (n, .list ds) (m, .int i)) h k = ixK n (atI ds i) k := by
  unfold cR ixK; rw [gIx_list]; cases atI ds i <;> rfl
@[simp ↓ low] theorem cR_ixT {i : Int} {k : R → Rs β} : cR (gIx (n, .tuple ds) (m, .int i)) h k = ixK n (atI ds i) k := by
  unfold cR ixK; rw [gIx_tuple]; cases atI ds i <;> rfl
section
variable {α : Type} [Inhabited α] {c : α → PyData} {xs : List α} {i : Int}
theorem atI_m (z : 0 ≤ i ∧ i < xs.length) : atI (xs.map c) i = some (c (iat xs i)) := by
  unfold atI ixN
  have hk : i.toNat < xs.length := by omega
  rw [if_pos z.1, List.length_map, if_pos z.2]
  show (xs.map c)[i.toNat]? = _
  unfold iat; rw [List.getElem?_map, List.getElem?_eq_getElem hk, List.getD_eq_getElem?_getD, List.getElem?_eq_getElem hk]
  rfl
@[simp ↓] theorem cR_ixLm {k : R → Rs β} (z : 0 ≤ i ∧ i < xs.length) : cR (gIx (n, .list (xs.map c)) (m, .int i)) h k = k (.sh (n || atom (c (iat xs i))) (c (iat xs i))) := by
  rw [cR_ixL, atI_m z]; rfl
@[simp ↓] theorem cR_ixTm {k : R → Rs β} (z : 0 ≤ i ∧ i < xs.length) : cR (gIx (n, .tuple (xs.map c)) (m, .int i)) h k = k (.sh (n || atom (c (iat xs i))) (c (iat xs i))) := by
  rw [cR_ixT, atI_m z]; rfl
end
@[simp ↓] theorem ixK_0 {i : Int} {x0 : PyData} {k : R → Rs β} (z : i = 0) : ixK n (atI (x0 :: ds) i) k = k (.sh (n || atom x0) x0) := by
  subst z
  have : atI (x0 :: ds) 0 = some x0 := by
    unfold atI ixN
    rw [if_pos (by decide), if_pos (by simp only [List.length_cons]; omega)]; rfl
  rw [this]; rfl
@[simp ↓] theorem ixK_1 {i : Int} {x0 x1 : PyData} {k : R → Rs β} (z : i = 1) : ixK n (atI (x0 :: x1 :: ds) i) k = k (.sh (n || atom x1) x1) := by
  subst z
  have : atI (x0 :: x1 :: ds) 1 = some x1 := by
    unfold atI ixN
    rw [if_pos (by decide), if_pos (by simp only [List.length_cons]; omega)]; rfl
  rw [this]; rfl
@[simp ↓] theorem ixK_2 {i : Int} {x0 x1 x2 : PyData} {k : R → Rs β} (z : i = 2) : ixK n (atI (x0 :: x1 :: x2 :: ds) i) k = k (.sh (n || atom x2) x2) := by
  subst z
  have : atI (x0 :: x1 :: x2 :: ds) 2 = some x2 := by
    unfold atI ixN
    rw [if_pos (by decide), if_pos (by simp only [List.length_cons]; omega)]; rfl
  rw [this]; rfl
@[simp ↓] theorem ixK_3 {i : Int} {x0 x1 x2 x3 : PyData} {k : R → Rs β} (z : i = 3) : ixK n (atI (x0 :: x1 :: x2 :: x3 :: ds) i) k = k (.sh (n || atom x3) x3) := by
  subst z
  have : atI (x0 :: x1 :: x2 :: x3 :: ds) 3 = some x3 := by
    unfold atI ixN
    rw [if_pos (by decide), if_pos (by simp only [List.length_cons]; omega)]; rfl
  rw [this]; rfl
@[simp ↓] theorem ixK_4 {i : Int} {x0 x1 x2 x3 x4 : PyData} {k : R → Rs β} (z : i = 4) : ixK n (atI (x0 :: x1 :: x2 :: x3 :: x4 :: ds) i) k = k (.sh (n || atom x4) x4) := by
  subst z
  have : atI (x0 :: x1 :: x2 :: x3 :: x4 :: ds) 4 = some x4 := by
    unfold atI ixN
    rw [if_pos (by decide), if_pos (by simp only [List.length_cons]; omega)]; rfl
  rw [this]; rfl
@[simp ↓] theorem ixK_5 {i : Int} {x0 x1 x2 x3 x4 x5 : PyData} {k : R → Rs β} (z : i = 5) : ixK n (atI (x0 :: x1 :: x2 :: x3 :: x4 :: x5 :: ds) i) k = k (.sh (n || atom x5) x5) := by
  subst z
  have : atI (x0 :: x1 :: x2 :: x3 :: x4 :: x5 :: ds) 5 = some x5 := by
    unfold atI ixN
    rw [if_pos (by decide), if_pos (by simp only [List.length_cons]; omega)]; rfl
  rw [this]; rfl
def eqK (neg : Bool) (o : Option Bool) (k : R → Rs β) : Rs β := match o with
  | some b => k (.sh true (.bool (if neg = true then !b else b)))
  | none => .bad
@[simp ↓] theorem eqK_t {b : Bool} {k : R → Rs β} : eqK false (some b) k = k (.sh true (.bool b)) := id rfl
@[simp ↓] theorem eqK_f {b : Bool} {k : R → Rs β} : eqK true (some b) k = k (.sh true (.bool (!b))) := id rfl
@[simp ↓] theorem eqK_ii {i j : Int} {neg : Bool} {k : R → Rs β} : eqK neg (eqB (.int i) (.int j)) k = eqK neg (some (decide (i = j))) k := id rfl
@[simp ↓] theorem eqK_ss {i j : Str} {neg : Bool} {k : R → Rs β} : eqK neg (eqB (.str i) (.str j)) k = eqK neg (some (decide (i = j))) k := id rfl
@[simp ↓] theorem cR_eq {neg : Bool} {d' : PyData} {k : R → Rs β} : cR (gEqN neg (n, d) (m, d')) h k = eqK neg (eqB d d') k := by
  unfold cR eqK; rw [gEqN_ap]
  show on (match eqB d d' with
    | some b => .ok (.sh true (.bool (if neg = true then !b else b)))
    | none => .bad) h k = _
  cases eqB d d' <;> rfl
@[simp ↓ low] theorem cR_lenL {k : R → Rs β} : cR (bLen (n, .list ds)) h k = k (.sh true (.int ds.length)) := id rfl
@[simp ↓ low] theorem cR_lenT {k : R → Rs β} : cR (bLen (n, .tuple ds)) h k = k (.sh true (.int ds.length)) := id rfl
@[simp ↓] theorem cR_lenLm {α : Type} {c : α → PyData} {xs : List α} {k : R → Rs β} : cR (bLen (n, .list (xs.map c))) h k = k (.sh true (.int xs.length)) := by rw [cR_lenL, List.length_map]
@[simp ↓] theorem cR_lenTm {α : Type} {c : α → PyData} {xs : List α} {k : R → Rs β} : cR (bLen (n, .tuple (xs.map c))) h k = k (.sh true (.int xs.length)) := by rw [cR_lenT, List.length_map]
@[simp ↓] theorem cR_lenS {x : Str} {k : R → Rs β} : cR (bLen (n, .str x)) h k = grd (decide (x.length ≤ 1000000)) (k (.sh true (.int x.length))) := on_grd _ _ _ _
@[simp ↓] theorem cR_intI {i : Int} {k : R → Rs β} : cR (bInt (n, .int i)) h k = k (.sh true (.int i)) := id rfl
@[simp ↓] theorem cR_strI {i : Int} {k : R → Rs β} : cR (bStr (n, .int i)) h k = grd (decide (i.natAbs < 2 ^ 60)) (k (.sh true (.str (Str.ofString (toString i))))) := on_grd _ _ _ _
@[simp ↓] theorem cR_reprT {k : R → Rs β} : cR (bRepr (n, .tuple ds)) h k = grd (reprOk (.tuple ds)) (k (.sh true (.str (PyData.shown (.tuple ds))))) := on_grd _ _ _ _
@[simp ↓] theorem fmK_i {i : Int} {k : Str → Rs β} : fmK (.int i) k = grd (decide (i.natAbs < 2 ^ 60)) (k (Str.ofString (toString i))) := id rfl
end
section
variable {β : Type} {h : HX β} {e : Env} {n m : Bool} {a b : List Nat} {xs : List (List Nat)} {j : Nat}
abbrev cS (a : List Nat) : PyData := .str (SX.S a)
def numC (i : Int) : List Nat := (toString i).toList.map Char.toNat
theorem num_str (i : Int) : Str.ofString (toString i) = SX.S (numC i) := Str.ofString_eq_toList _
@[simp ↓ high] theorem fmK_N {i : Int} {k : Str → Rs β} : fmK (.int i) k = grd (decide (i.natAbs < 1152921504606846976)) (k (SX.S (numC i))) := by
  rw [fmK_i, num_str]
@[simp ↓ high] theorem cR_strN {i : Int} {k : R → Rs β} : cR (bStr (n, .int i)) h k = grd (decide (i.natAbs < 1152921504606846976)) (k (.sh true (cS (numC i)))) := by
  rw [cR_strI, num_str]
@[simp ↓] theorem cF_emp {fs : List FV} {k : Env → Str → Rs β} : cF fs Str.empty e h k = cF fs (SX.S []) e h k := id rfl
@[simp ↓ high] theorem cF_cat {fs : List FV} {k : Env → Str → Rs β} : cF fs (SX.S a ++ SX.S b) e h k = cF fs (SX.S (a ++ b)) e h k := by rw [SX.S_cat]
@[simp ↓ high] theorem grd_cat {r : Rs β} : grd (decide ((SX.S a ++ SX.S b).length ≤ j)) r = grd (decide (a.length + b.length ≤ j)) r := by rw [SX.S_cat, SX.S_len, List.length_append]
@[simp ↓ high] theorem cR_addSS {k : R → Rs β} : cR (gAdd (n, cS a) (m, cS b)) h k = grd (decide (a.length + b.length ≤ 1000000)) (k (.sh true (cS (a ++ b)))) := by
  rw [cR_addS, SX.S_cat, SX.S_len, SX.S_len]
@[simp ↓ high] theorem cR_lenSS {k : R → Rs β} : cR (bLen (n, cS a)) h k = grd (decide (a.length ≤ 1000000)) (k (.sh true (.int a.length))) := by
  rw [cR_lenS, SX.S_len]
@[simp ↓ high] theorem eqK_SS {neg : Bool} {k : R → Rs β} : eqK neg (eqB (cS a) (cS b)) k = eqK neg (some (decide (a = b))) k := by
  have : decide (SX.S a = SX.S b) = decide (a = b) := decide_eq_decide.mpr ⟨SX.S_inj, fun z => by rw [z]⟩
  rw [eqK_ss, this]
@[simp] theorem S_cat' : SX.S a ++ SX.S b = SX.S (a ++ b) := SX.S_cat a b
@[simp] theorem S_len' : (SX.S a).length = a.length := SX.S_len a
@[simp] theorem grd_p' {p : Prop} [Decidable p] {r : Rs β} (h : p) : grd (decide p) r = r := grd_p h
theorem strs_S : ∀ xs : List (List Nat), strsOf (xs.map cS) = some (xs.map SX.S)
  | [] => rfl
  | x :: xs => by
    show (strsOf (xs.map cS)).map (SX.S x :: ·) = _
    rw [strs_S xs]; rfl
theorem gJoin_S {d : PyData} (hd : seqOf d = some (xs.map cS)) : gJoin (SX.S a) d = if (xs.map (·.length)).sum + xs.length * a.length ≤ 1000000 then some (SX.S (TL.joinL a xs)) else none := by
  unfold gJoin
  rw [hd]
  dsimp only
  rw [strs_S]
  dsimp only
  rw [SX.lens, SX.S_len, SX.join_S, List.length_map]
@[simp ↓ high] theorem oK_L {k : Str → Rs β} : oK (gJoin (SX.S a) (.list (xs.map cS))) k = grd (decide ((xs.map (·.length)).sum + xs.length * a.length ≤ 1000000)) (k (SX.S (TL.joinL a xs))) := by
  rw [gJoin_S rfl]
  split
  · rename_i z; rw [decide_eq_true z]; rfl
  · rename_i z; rw [decide_eq_false z]; rfl
theorem joinL_nil : ∀ xs : List (List Nat), TL.joinL [] xs = xs.flatten
  | [] => rfl
  | [x] => by simp [TL.joinL]
  | x :: y :: r => by
    show x ++ ([] ++ TL.joinL [] (y :: r)) = _
    rw [joinL_nil (y :: r)]; simp
@[simp ↓ 20000] theorem oK_L0 {k : Str → Rs β} : oK (gJoin (SX.S []) (.list (xs.map cS))) k = grd (decide (xs.flatten.length ≤ 1000000)) (k (SX.S xs.flatten)) := by
  rw [oK_L, joinL_nil, List.length_flatten]; simp only [List.length_nil, Nat.mul_zero, Nat.add_zero]
theorem flat_le {xs : List (List Nat)} {b : Nat} (h : ∀ x ∈ xs, x.length ≤ b) : xs.flatten.length ≤ xs.length * b := by
  induction xs with
  | nil => simp
  | cons x xs ih =>
    have h1 := h x List.mem_cons_self
    have h2 := ih fun y hy => h y (List.mem_cons_of_mem _ hy)
    rw [List.flatten_cons, List.length_append, List.length_cons, Nat.succ_mul]
    omega
theorem sum_le {xs : List (List Nat)} {b : Nat} (h : ∀ x ∈ xs, x.length ≤ b) : (xs.map (·.length)).sum ≤ xs.length * b := by
  have := flat_le h
  rwa [List.length_flatten] at this
end
section
variable {β : Type} {h : HX β} {kE : Env → R → Rs β} {kV : Env → Bool → PyData → Rs β} {kP : Env → Rs β} {kO : Out → Rs β} {n m : Bool} {d kd : PyData} {ds : List PyData} {r : Env} {x y : Option Sl} {t : Sl} {j : Int} {α : Type} {c : α → PyData} {xs : List α} {z : α}
@[simp ↓] theorem vS_0 : cV (rd (fVar 0)) (some (.sh n d) :: r) h kV = kV (some (.sh n d) :: r) n d := id rfl
@[simp ↓] theorem vSl_0 : cV (rd (fVar 0)) (lent (some (.sh n d) :: r)) h kV = kV (lent (some (.sh n d) :: r)) n d := id rfl
@[simp ↓] theorem kS_0 : cV (st (fVar 0)) (some (.sh n d) :: r) h kV = kV (some (.sh n d) :: r) n d := id rfl
@[simp ↓] theorem kSl_0 : cV (st (fVar 0)) (lent (some (.sh n d) :: r)) h kV = kV (lent (some (.sh n d) :: r)) n d := id rfl
@[simp ↓ low] theorem sO_0 (z : 0 ≤ j ∧ j < ds.length) : siK 0 (some (.ow n ds) :: r) m d (.int j) h kO = kO (.nx (some (.ow (n && m) (ds.set j.toNat d)) :: r)) := by
  unfold siK; rw [show gt (some (.ow n ds) :: r) 0 = some (.ow n ds) from rfl, setS_ow, ixN_in z]; rfl
@[simp ↓] theorem sOm_0 (q : 0 ≤ j ∧ j < xs.length) : siK 0 (some (.ow n (xs.map c)) :: r) m (c z) (.int j) h kO = kO (.nx (some (.ow (n && m) ((ist xs j z).map c)) :: r)) := by
  rw [sO_0 (by rw [List.length_map]; exact q), map_set]; rfl
@[simp ↓] theorem eS_1 {s0 : Option Sl} : cE (fVar 1) (s0 :: some (.sh n d) :: r) h kE = kE (s0 :: some (.sh n d) :: r) (.sh n d) := id rfl
@[simp ↓] theorem eO_1 {s0 : Option Sl} : cE (fVar 1) (s0 :: some (.ow n ds) :: r) h kE = kE (s0 :: some (.ow n ds) :: r) (.own 1) := id rfl
@[simp ↓] theorem eOl_1 {s0 : Option Sl} : cE (fVar 1) (lent (s0 :: some (.ow n ds) :: r)) h kE = kE (lent (s0 :: some (.ow n ds) :: r)) (.sh n (.list ds)) := id rfl
@[simp ↓] theorem vS_1 {s0 : Option Sl} : cV (rd (fVar 1)) (s0 :: some (.sh n d) :: r) h kV = kV (s0 :: some (.sh n d) :: r) n d := id rfl
@[simp ↓] theorem vO_1 {s0 : Option Sl} : cV (rd (fVar 1)) (s0 :: some (.ow n ds) :: r) h kV = kV (s0 :: some (.ow n ds) :: r) n (.list ds) := id rfl
@[simp ↓] theorem vSl_1 {s0 : Option Sl} : cV (rd (fVar 1)) (lent (s0 :: some (.sh n d) :: r)) h kV = kV (lent (s0 :: some (.sh n d) :: r)) n d := id rfl
@[simp ↓] theorem kS_1 {s0 : Option Sl} : cV (st (fVar 1)) (s0 :: some (.sh n d) :: r) h kV = kV (s0 :: some (.sh n d) :: r) n d := id rfl
@[simp ↓] theorem kO_1 {s0 : Option Sl} : cV (st (fVar 1)) (s0 :: some (.ow n ds) :: r) h kV = kV (s0 :: some (.sh n (.list ds)) :: r) n (.list ds) := id rfl
@[simp ↓] theorem kSl_1 {s0 : Option Sl} : cV (st (fVar 1)) (lent (s0 :: some (.sh n d) :: r)) h kV = kV (lent (s0 :: some (.sh n d) :: r)) n d := id rfl
@[simp ↓] theorem p_1 {s0 : Option Sl} : cP 1 (s0 :: x :: r) y kP = kP (s0 :: y :: r) := id rfl
@[simp ↓] theorem rO_1 {s0 : Option Sl} : reK (s0 :: some (.ow n ds) :: r) (.own 1) h kO = kO (.rt (.nw n ds)) := id rfl
@[simp ↓] theorem rdO_1 {s0 : Option Sl} : rdK (s0 :: some (.ow n ds) :: r) (.own 1) h kV = kV (s0 :: some (.ow n ds) :: r) n (.list ds) := id rfl
@[simp ↓ low] theorem sO_1 {s0 : Option Sl} (z : 0 ≤ j ∧ j < ds.length) : siK 1 (s0 :: some (.ow n ds) :: r) m d (.int j) h kO = kO (.nx (s0 :: some (.ow (n && m) (ds.set j.toNat d)) :: r)) := by
  unfold siK; rw [show gt (s0 :: some (.ow n ds) :: r) 1 = some (.ow n ds) from rfl, setS_ow, ixN_in z]; rfl
@[simp ↓] theorem sOm_1 {s0 : Option Sl} (q : 0 ≤ j ∧ j < xs.length) : siK 1 (s0 :: some (.ow n (xs.map c)) :: r) m (c z) (.int j) h kO = kO (.nx (s0 :: some (.ow (n && m) ((ist xs j z).map c)) :: r)) := by
  rw [sO_1 (by rw [List.length_map]; exact q), map_set]; rfl
@[simp ↓] theorem eS_2 {s0 s1 : Option Sl} : cE (fVar 2) (s0 :: s1 :: some (.sh n d) :: r) h kE = kE (s0 :: s1 :: some (.sh n d) :: r) (.sh n d) := id rfl
@[simp ↓] theorem vS_2 {s0 s1 : Option Sl} : cV (rd (fVar 2)) (s0 :: s1 :: some (.sh n d) :: r) h kV = kV (s0 :: s1 :: some (.sh n d) :: r) n d := id rfl
@[simp ↓] theorem vO_2 {s0 s1 : Option Sl} : cV (rd (fVar 2)) (s0 :: s1 :: some (.ow n ds) :: r) h kV = kV (s0 :: s1 :: some (.ow n ds) :: r) n (.list ds) := id rfl
@[simp ↓] theorem vSl_2 {s0 s1 : Option Sl} : cV (rd (fVar 2)) (lent (s0 :: s1 :: some (.sh n d) :: r)) h kV = kV (lent (s0 :: s1 :: some (.sh n d) :: r)) n d := id rfl
@[simp ↓] theorem vOl_2 {s0 s1 : Option Sl} : cV (rd (fVar 2)) (lent (s0 :: s1 :: some (.ow n ds) :: r)) h kV = kV (lent (s0 :: s1 :: some (.ow n ds) :: r)) n (.list ds) := id rfl
@[simp ↓] theorem kS_2 {s0 s1 : Option Sl} : cV (st (fVar 2)) (s0 :: s1 :: some (.sh n d) :: r) h kV = kV (s0 :: s1 :: some (.sh n d) :: r) n d := id rfl
@[simp ↓] theorem kSl_2 {s0 s1 : Option Sl} : cV (st (fVar 2)) (lent (s0 :: s1 :: some (.sh n d) :: r)) h kV = kV (lent (s0 :: s1 :: some (.sh n d) :: r)) n d := id rfl
@[simp ↓] theorem p_2 {s0 s1 : Option Sl} : cP 2 (s0 :: s1 :: x :: r) y kP = kP (s0 :: s1 :: y :: r) := id rfl
@[simp ↓] theorem iO_2 {s0 s1 : Option Sl} {z : Rs β} : grd (isOw (gt (s0 :: s1 :: some (.ow n ds) :: r) 2)) z = z := id rfl
@[simp ↓ low] theorem sO_2 {s0 s1 : Option Sl} (z : 0 ≤ j ∧ j < ds.length) : siK 2 (s0 :: s1 :: some (.ow n ds) :: r) m d (.int j) h kO = kO (.nx (s0 :: s1 :: some (.ow (n && m) (ds.set j.toNat d)) :: r)) := by
  unfold siK; rw [show gt (s0 :: s1 :: some (.ow n ds) :: r) 2 = some (.ow n ds) from rfl, setS_ow, ixN_in z]; rfl
@[simp ↓] theorem sOm_2 {s0 s1 : Option Sl} (q : 0 ≤ j ∧ j < xs.length) : siK 2 (s0 :: s1 :: some (.ow n (xs.map c)) :: r) m (c z) (.int j) h kO = kO (.nx (s0 :: s1 :: some (.ow (n && m) ((ist xs j z).map c)) :: r)) := by
  rw [sO_2 (by rw [List.length_map]; exact q), map_set]; rfl
@[simp ↓] theorem eS_3 {s0 s1 s2 : Option Sl} : cE (fVar 3) (s0 :: s1 :: s2 :: some (.sh n d) :: r) h kE = kE (s0 :: s1 :: s2 :: some (.sh n d) :: r) (.sh n d) := id rfl
@[simp ↓] theorem eO_3 {s0 s1 s2 : Option Sl} : cE (fVar 3) (s0 :: s1 :: s2 :: some (.ow n ds) :: r) h kE = kE (s0 :: s1 :: s2 :: some (.ow n ds) :: r) (.own 3) := id rfl
@[simp ↓] theorem vS_3 {s0 s1 s2 : Option Sl} : cV (rd (fVar 3)) (s0 :: s1 :: s2 :: some (.sh n d) :: r) h kV = kV (s0 :: s1 :: s2 :: some (.sh n d) :: r) n d := id rfl
@[simp ↓] theorem vSl_3 {s0 s1 s2 : Option Sl} : cV (rd (fVar 3)) (lent (s0 :: s1 :: s2 :: some (.sh n d) :: r)) h kV = kV (lent (s0 :: s1 :: s2 :: some (.sh n d) :: r)) n d := id rfl
@[simp ↓] theorem kS_3 {s0 s1 s2 : Option Sl} : cV (st (fVar 3)) (s0 :: s1 :: s2 :: some (.sh n d) :: r) h kV = kV (s0 :: s1 :: s2 :: some (.sh n d) :: r) n d := id rfl
@[simp ↓] theorem kO_3 {s0 s1 s2 : Option Sl} : cV (st (fVar 3)) (s0 :: s1 :: s2 :: some (.ow n ds) :: r) h kV = kV (s0 :: s1 :: s2 :: some (.sh n (.list ds)) :: r) n (.list ds) := id rfl
@[simp ↓] theorem kSl_3 {s0 s1 s2 : Option Sl} : cV (st (fVar 3)) (lent (s0 :: s1 :: s2 :: some (.sh n d) :: r)) h kV = kV (lent (s0 :: s1 :: s2 :: some (.sh n d) :: r)) n d := id rfl
@[simp ↓] theorem p_3 {s0 s1 s2 : Option Sl} : cP 3 (s0 :: s1 :: s2 :: x :: r) y kP = kP (s0 :: s1 :: s2 :: y :: r) := id rfl
@[simp ↓] theorem rO_3 {s0 s1 s2 : Option Sl} : reK (s0 :: s1 :: s2 :: some (.ow n ds) :: r) (.own 3) h kO = kO (.rt (.nw n ds)) := id rfl
@[simp ↓] theorem iO_3 {s0 s1 s2 : Option Sl} {z : Rs β} : grd (isOw (gt (s0 :: s1 :: s2 :: some (.ow n ds) :: r) 3)) z = z := id rfl
@[simp ↓] theorem stO_3 {s0 s1 s2 : Option Sl} : stK (s0 :: s1 :: s2 :: some (.ow n ds) :: r) (.own 3) h kV = kV (s0 :: s1 :: s2 :: some (.sh n (.list ds)) :: r) n (.list ds) := id rfl
@[simp ↓ low] theorem aO_3 {s0 s1 s2 : Option Sl} : apK 3 (s0 :: s1 :: s2 :: some (.ow n ds) :: r) m d h kO = grd (decide (ds.length < 1000000)) (kO (.nx (s0 :: s1 :: s2 :: some (.ow (n && m) (ds ++ [d])) :: r))) := by
  exact on_grd _ _ _ _
@[simp ↓ low] theorem sO_3 {s0 s1 s2 : Option Sl} (z : 0 ≤ j ∧ j < ds.length) : siK 3 (s0 :: s1 :: s2 :: some (.ow n ds) :: r) m d (.int j) h kO = kO (.nx (s0 :: s1 :: s2 :: some (.ow (n && m) (ds.set j.toNat d)) :: r)) := by
  unfold siK; rw [show gt (s0 :: s1 :: s2 :: some (.ow n ds) :: r) 3 = some (.ow n ds) from rfl, setS_ow, ixN_in z]; rfl
@[simp ↓] theorem aOm_3 {s0 s1 s2 : Option Sl} : apK 3 (s0 :: s1 :: s2 :: some (.ow n (xs.map c)) :: r) m (c z) h kO = grd (decide (xs.length < 1000000)) (kO (.nx (s0 :: s1 :: s2 :: some (.ow (n && m) ((xs ++ [z]).map c)) :: r))) := by
  rw [aO_3, List.length_map, map_snoc]
@[simp ↓] theorem sOm_3 {s0 s1 s2 : Option Sl} (q : 0 ≤ j ∧ j < xs.length) : siK 3 (s0 :: s1 :: s2 :: some (.ow n (xs.map c)) :: r) m (c z) (.int j) h kO = kO (.nx (s0 :: s1 :: s2 :: some (.ow (n && m) ((ist xs j z).map c)) :: r)) := by
  rw [sO_3 (by rw [List.length_map]; exact q), map_set]; rfl
@[simp ↓] theorem eO_4 {s0 s1 s2 s3 : Option Sl} : cE (fVar 4) (s0 :: s1 :: s2 :: s3 :: some (.ow n ds) :: r) h kE = kE (s0 :: s1 :: s2 :: s3 :: some (.ow n ds) :: r) (.own 4) := id rfl
@[simp ↓] theorem vS_4 {s0 s1 s2 s3 : Option Sl} : cV (rd (fVar 4)) (s0 :: s1 :: s2 :: s3 :: some (.sh n d) :: r) h kV = kV (s0 :: s1 :: s2 :: s3 :: some (.sh n d) :: r) n d := id rfl
@[simp ↓] theorem vSl_4 {s0 s1 s2 s3 : Option Sl} : cV (rd (fVar 4)) (lent (s0 :: s1 :: s2 :: s3 :: some (.sh n d) :: r)) h kV = kV (lent (s0 :: s1 :: s2 :: s3 :: some (.sh n d) :: r)) n d := id rfl
@[simp ↓] theorem kS_4 {s0 s1 s2 s3 : Option Sl} : cV (st (fVar 4)) (s0 :: s1 :: s2 :: s3 :: some (.sh n d) :: r) h kV = kV (s0 :: s1 :: s2 :: s3 :: some (.sh n d) :: r) n d := id rfl
@[simp ↓] theorem p_4 {s0 s1 s2 s3 : Option Sl} : cP 4 (s0 :: s1 :: s2 :: s3 :: x :: r) y kP = kP (s0 :: s1 :: s2 :: s3 :: y :: r) := id rfl
@[simp ↓] theorem stO_4 {s0 s1 s2 s3 : Option Sl} : stK (s0 :: s1 :: s2 :: s3 :: some (.ow n ds) :: r) (.own 4) h kV = kV (s0 :: s1 :: s2 :: s3 :: some (.sh n (.list ds)) :: r) n (.list ds) := id rfl
@[simp ↓ low] theorem sO_4 {s0 s1 s2 s3 : Option Sl} (z : 0 ≤ j ∧ j < ds.length) : siK 4 (s0 :: s1 :: s2 :: s3 :: some (.ow n ds) :: r) m d (.int j) h kO = kO (.nx (s0 :: s1 :: s2 :: s3 :: some (.ow (n && m) (ds.set j.toNat d)) :: r)) := by
  unfold siK; rw [show gt (s0 :: s1 :: s2 :: s3 :: some (.ow n ds) :: r) 4 = some (.ow n ds) from rfl, setS_ow, ixN_in z]; rfl
@[simp ↓] theorem sOm_4 {s0 s1 s2 s3 : Option Sl} (q : 0 ≤ j ∧ j < xs.length) : siK 4 (s0 :: s1 :: s2 :: s3 :: some (.ow n (xs.map c)) :: r) m (c z) (.int j) h kO = kO (.nx (s0 :: s1 :: s2 :: s3 :: some (.ow (n && m) ((ist xs j z).map c)) :: r)) := by
  rw [sO_4 (by rw [List.length_map]; exact q), map_set]; rfl
@[simp ↓] theorem eS_5 {s0 s1 s2 s3 s4 : Option Sl} : cE (fVar 5) (s0 :: s1 :: s2 :: s3 :: s4 :: some (.sh n d) :: r) h kE = kE (s0 :: s1 :: s2 :: s3 :: s4 :: some (.sh n d) :: r) (.sh n d) := id rfl
@[simp ↓] theorem vS_5 {s0 s1 s2 s3 s4 : Option Sl} : cV (rd (fVar 5)) (s0 :: s1 :: s2 :: s3 :: s4 :: some (.sh n d) :: r) h kV = kV (s0 :: s1 :: s2 :: s3 :: s4 :: some (.sh n d) :: r) n d := id rfl
@[simp ↓] theorem vSl_5 {s0 s1 s2 s3 s4 : Option Sl} : cV (rd (fVar 5)) (lent (s0 :: s1 :: s2 :: s3 :: s4 :: some (.sh n d) :: r)) h kV = kV (lent (s0 :: s1 :: s2 :: s3 :: s4 :: some (.sh n d) :: r)) n d := id rfl
@[simp ↓] theorem kS_5 {s0 s1 s2 s3 s4 : Option Sl} : cV (st (fVar 5)) (s0 :: s1 :: s2 :: s3 :: s4 :: some (.sh n d) :: r) h kV = kV (s0 :: s1 :: s2 :: s3 :: s4 :: some (.sh n d) :: r) n d := id rfl
@[simp ↓] theorem kSl_5 {s0 s1 s2 s3 s4 : Option Sl} : cV (st (fVar 5)) (lent (s0 :: s1 :: s2 :: s3 :: s4 :: some (.sh n d) :: r)) h kV = kV (lent (s0 :: s1 :: s2 :: s3 :: s4 :: some (.sh n d) :: r)) n d := id rfl
@[simp ↓] theorem p_5 {s0 s1 s2 s3 s4 : Option Sl} : cP 5 (s0 :: s1 :: s2 :: s3 :: s4 :: x :: r) y kP = kP (s0 :: s1 :: s2 :: s3 :: s4 :: y :: r) := id rfl
@[simp ↓ low] theorem sO_5 {s0 s1 s2 s3 s4 : Option Sl} (z : 0 ≤ j ∧ j < ds.length) : siK 5 (s0 :: s1 :: s2 :: s3 :: s4 :: some (.ow n ds) :: r) m d (.int j) h kO = kO (.nx (s0 :: s1 :: s2 :: s3 :: s4 :: some (.ow (n && m) (ds.set j.toNat d)) :: r)) := by
  unfold siK; rw [show gt (s0 :: s1 :: s2 :: s3 :: s4 :: some (.ow n ds) :: r) 5 = some (.ow n ds) from rfl, setS_ow, ixN_in z]; rfl
@[simp ↓] theorem sOm_5 {s0 s1 s2 s3 s4 : Option Sl} (q : 0 ≤ j ∧ j < xs.length) : siK 5 (s0 :: s1 :: s2 :: s3 :: s4 :: some (.ow n (xs.map c)) :: r) m (c z) (.int j) h kO = kO (.nx (s0 :: s1 :: s2 :: s3 :: s4 :: some (.ow (n && m) ((ist xs j z).map c)) :: r)) := by
  rw [sO_5 (by rw [List.length_map]; exact q), map_set]; rfl
@[simp ↓] theorem vS_6 {s0 s1 s2 s3 s4 s5 : Option Sl} : cV (rd (fVar 6)) (s0 :: s1 :: s2 :: s3 :: s4 :: s5 :: some (.sh n d) :: r) h kV = kV (s0 :: s1 :: s2 :: s3 :: s4 :: s5 :: some (.sh n d) :: r) n d := id rfl
@[simp ↓] theorem kS_6 {s0 s1 s2 s3 s4 s5 : Option Sl} : cV (st (fVar 6)) (s0 :: s1 :: s2 :: s3 :: s4 :: s5 :: some (.sh n d) :: r) h kV = kV (s0 :: s1 :: s2 :: s3 :: s4 :: s5 :: some (.sh n d) :: r) n d := id rfl
@[simp ↓] theorem kSl_6 {s0 s1 s2 s3 s4 s5 : Option Sl} : cV (st (fVar 6)) (lent (s0 :: s1 :: s2 :: s3 :: s4 :: s5 :: some (.sh n d) :: r)) h kV = kV (lent (s0 :: s1 :: s2 :: s3 :: s4 :: s5 :: some (.sh n d) :: r)) n d := id rfl
@[simp ↓] theorem p_6 {s0 s1 s2 s3 s4 s5 : Option Sl} : cP 6 (s0 :: s1 :: s2 :: s3 :: s4 :: s5 :: x :: r) y kP = kP (s0 :: s1 :: s2 :: s3 :: s4 :: s5 :: y :: r) := id rfl
@[simp ↓ low] theorem sO_6 {s0 s1 s2 s3 s4 s5 : Option Sl} (z : 0 ≤ j ∧ j < ds.length) : siK 6 (s0 :: s1 :: s2 :: s3 :: s4 :: s5 :: some (.ow n ds) :: r) m d (.int j) h kO = kO (.nx (s0 :: s1 :: s2 :: s3 :: s4 :: s5 :: some (.ow (n && m) (ds.set j.toNat d)) :: r)) := by
  unfold siK; rw [show gt (s0 :: s1 :: s2 :: s3 :: s4 :: s5 :: some (.ow n ds) :: r) 6 = some (.ow n ds) from rfl, setS_ow, ixN_in z]; rfl
@[simp ↓] theorem sOm_6 {s0 s1 s2 s3 s4 s5 : Option Sl} (q : 0 ≤ j ∧ j < xs.length) : siK 6 (s0 :: s1 :: s2 :: s3 :: s4 :: s5 :: some (.ow n (xs.map c)) :: r) m (c z) (.int j) h kO = kO (.nx (s0 :: s1 :: s2 :: s3 :: s4 :: s5 :: some (.ow (n && m) ((ist xs j z).map c)) :: r)) := by
  rw [sO_6 (by rw [List.length_map]; exact q), map_set]; rfl
@[simp ↓] theorem vS_7 {s0 s1 s2 s3 s4 s5 s6 : Option Sl} : cV (rd (fVar 7)) (s0 :: s1 :: s2 :: s3 :: s4 :: s5 :: s6 :: some (.sh n d) :: r) h kV = kV (s0 :: s1 :: s2 :: s3 :: s4 :: s5 :: s6 :: some (.sh n d) :: r) n d := id rfl
@[simp ↓] theorem vSl_7 {s0 s1 s2 s3 s4 s5 s6 : Option Sl} : cV (rd (fVar 7)) (lent (s0 :: s1 :: s2 :: s3 :: s4 :: s5 :: s6 :: some (.sh n d) :: r)) h kV = kV (lent (s0 :: s1 :: s2 :: s3 :: s4 :: s5 :: s6 :: some (.sh n d) :: r)) n d := id rfl
@[simp ↓] theorem kSl_7 {s0 s1 s2 s3 s4 s5 s6 : Option Sl} : cV (st (fVar 7)) (lent (s0 :: s1 :: s2 :: s3 :: s4 :: s5 :: s6 :: some (.sh n d) :: r)) h kV = kV (lent (s0 :: s1 :: s2 :: s3 :: s4 :: s5 :: s6 :: some (.sh n d) :: r)) n d := id rfl
@[simp ↓] theorem p_7 {s0 s1 s2 s3 s4 s5 s6 : Option Sl} : cP 7 (s0 :: s1 :: s2 :: s3 :: s4 :: s5 :: s6 :: x :: r) y kP = kP (s0 :: s1 :: s2 :: s3 :: s4 :: s5 :: s6 :: y :: r) := id rfl
@[simp ↓ low] theorem sO_7 {s0 s1 s2 s3 s4 s5 s6 : Option Sl} (z : 0 ≤ j ∧ j < ds.length) : siK 7 (s0 :: s1 :: s2 :: s3 :: s4 :: s5 :: s6 :: some (.ow n ds) :: r) m d (.int j) h kO = kO (.nx (s0 :: s1 :: s2 :: s3 :: s4 :: s5 :: s6 :: some (.ow (n && m) (ds.set j.toNat d)) :: r)) := by
  unfold siK; rw [show gt (s0 :: s1 :: s2 :: s3 :: s4 :: s5 :: s6 :: some (.ow n ds) :: r) 7 = some (.ow n ds) from rfl, setS_ow, ixN_in z]; rfl
@[simp ↓] theorem sOm_7 {s0 s1 s2 s3 s4 s5 s6 : Option Sl} (q : 0 ≤ j ∧ j < xs.length) : siK 7 (s0 :: s1 :: s2 :: s3 :: s4 :: s5 :: s6 :: some (.ow n (xs.map c)) :: r) m (c z) (.int j) h kO = kO (.nx (s0 :: s1 :: s2 :: s3 :: s4 :: s5 :: s6 :: some (.ow (n && m) ((ist xs j z).map c)) :: r)) := by
  rw [sO_7 (by rw [List.length_map]; exact q), map_set]; rfl
@[simp ↓] theorem vS_8 {s0 s1 s2 s3 s4 s5 s6 s7 : Option Sl} : cV (rd (fVar 8)) (s0 :: s1 :: s2 :: s3 :: s4 :: s5 :: s6 :: s7 :: some (.sh n d) :: r) h kV = kV (s0 :: s1 :: s2 :: s3 :: s4 :: s5 :: s6 :: s7 :: some (.sh n d) :: r) n d := id rfl
@[simp ↓] theorem p_8 {s0 s1 s2 s3 s4 s5 s6 s7 : Option Sl} : cP 8 (s0 :: s1 :: s2 :: s3 :: s4 :: s5 :: s6 :: s7 :: x :: r) y kP = kP (s0 :: s1 :: s2 :: s3 :: s4 :: s5 :: s6 :: s7 :: y :: r) := id rfl
@[simp ↓ low] theorem sO_8 {s0 s1 s2 s3 s4 s5 s6 s7 : Option Sl} (z : 0 ≤ j ∧ j < ds.length) : siK 8 (s0 :: s1 :: s2 :: s3 :: s4 :: s5 :: s6 :: s7 :: some (.ow n ds) :: r) m d (.int j) h kO = kO (.nx (s0 :: s1 :: s2 :: s3 :: s4 :: s5 :: s6 :: s7 :: some (.ow (n && m) (ds.set j.toNat d)) :: r)) := by
  unfold siK; rw [show gt (s0 :: s1 :: s2 :: s3 :: s4 :: s5 :: s6 :: s7 :: some (.ow n ds) :: r) 8 = some (.ow n ds) from rfl, setS_ow, ixN_in z]; rfl
@[simp ↓] theorem sOm_8 {s0 s1 s2 s3 s4 s5 s6 s7 : Option Sl} (q : 0 ≤ j ∧ j < xs.length) : siK 8 (s0 :: s1 :: s2 :: s3 :: s4 :: s5 :: s6 :: s7 :: some (.ow n (xs.map c)) :: r) m (c z) (.int j) h kO = kO (.nx (s0 :: s1 :: s2 :: s3 :: s4 :: s5 :: s6 :: s7 :: some (.ow (n && m) ((ist xs j z).map c)) :: r)) := by
  rw [sO_8 (by rw [List.length_map]; exact q), map_set]; rfl
@[simp ↓ low] theorem sO_9 {s0 s1 s2 s3 s4 s5 s6 s7 s8 : Option Sl} (z : 0 ≤ j ∧ j < ds.length) : siK 9 (s0 :: s1 :: s2 :: s3 :: s4 :: s5 :: s6 :: s7 :: s8 :: some (.ow n ds) :: r) m d (.int j) h kO = kO (.nx (s0 :: s1 :: s2 :: s3 :: s4 :: s5 :: s6 :: s7 :: s8 :: some (.ow (n && m) (ds.set j.toNat d)) :: r)) := by
  unfold siK; rw [show gt (s0 :: s1 :: s2 :: s3 :: s4 :: s5 :: s6 :: s7 :: s8 :: some (.ow n ds) :: r) 9 = some (.ow n ds) from rfl, setS_ow, ixN_in z]; rfl
@[simp ↓] theorem sOm_9 {s0 s1 s2 s3 s4 s5 s6 s7 s8 : Option Sl} (q : 0 ≤ j ∧ j < xs.length) : siK 9 (s0 :: s1 :: s2 :: s3 :: s4 :: s5 :: s6 :: s7 :: s8 :: some (.ow n (xs.map c)) :: r) m (c z) (.int j) h kO = kO (.nx (s0 :: s1 :: s2 :: s3 :: s4 :: s5 :: s6 :: s7 :: s8 :: some (.ow (n && m) ((ist xs j z).map c)) :: r)) := by
  rw [sO_9 (by rw [List.length_map]; exact q), map_set]; rfl
@[simp ↓ low] theorem sO_10 {s0 s1 s2 s3 s4 s5 s6 s7 s8 s9 : Option Sl} (z : 0 ≤ j ∧ j < ds.length) : siK 10 (s0 :: s1 :: s2 :: s3 :: s4 :: s5 :: s6 :: s7 :: s8 :: s9 :: some (.ow n ds) :: r) m d (.int j) h kO = kO (.nx (s0 :: s1 :: s2 :: s3 :: s4 :: s5 :: s6 :: s7 :: s8 :: s9 :: some (.ow (n && m) (ds.set j.toNat d)) :: r)) := by
  unfold siK; rw [show gt (s0 :: s1 :: s2 :: s3 :: s4 :: s5 :: s6 :: s7 :: s8 :: s9 :: some (.ow n ds) :: r) 10 = some (.ow n ds) from rfl, setS_ow, ixN_in z]; rfl
@[simp ↓] theorem sOm_10 {s0 s1 s2 s3 s4 s5 s6 s7 s8 s9 : Option Sl} (q : 0 ≤ j ∧ j < xs.length) : siK 10 (s0 :: s1 :: s2 :: s3 :: s4 :: s5 :: s6 :: s7 :: s8 :: s9 :: some (.ow n (xs.map c)) :: r) m (c z) (.int j) h kO = kO (.nx (s0 :: s1 :: s2 :: s3 :: s4 :: s5 :: s6 :: s7 :: s8 :: s9 :: some (.ow (n && m) ((ist xs j z).map c)) :: r)) := by
  rw [sO_10 (by rw [List.length_map]; exact q), map_set]; rfl
@[simp ↓ low] theorem sO_11 {s0 s1 s2 s3 s4 s5 s6 s7 s8 s9 s10 : Option Sl} (z : 0 ≤ j ∧ j < ds.length) : siK 11 (s0 :: s1 :: s2 :: s3 :: s4 :: s5 :: s6 :: s7 :: s8 :: s9 :: s10 :: some (.ow n ds) :: r) m d (.int j) h kO = kO (.nx (s0 :: s1 :: s2 :: s3 :: s4 :: s5 :: s6 :: s7 :: s8 :: s9 :: s10 :: some (.ow (n && m) (ds.set j.toNat d)) :: r)) := by
  unfold siK; rw [show gt (s0 :: s1 :: s2 :: s3 :: s4 :: s5 :: s6 :: s7 :: s8 :: s9 :: s10 :: some (.ow n ds) :: r) 11 = some (.ow n ds) from rfl, setS_ow, ixN_in z]; rfl
@[simp ↓] theorem sOm_11 {s0 s1 s2 s3 s4 s5 s6 s7 s8 s9 s10 : Option Sl} (q : 0 ≤ j ∧ j < xs.length) : siK 11 (s0 :: s1 :: s2 :: s3 :: s4 :: s5 :: s6 :: s7 :: s8 :: s9 :: s10 :: some (.ow n (xs.map c)) :: r) m (c z) (.int j) h kO = kO (.nx (s0 :: s1 :: s2 :: s3 :: s4 :: s5 :: s6 :: s7 :: s8 :: s9 :: s10 :: some (.ow (n && m) ((ist xs j z).map c)) :: r)) := by
  rw [sO_11 (by rw [List.length_map]; exact q), map_set]; rfl
@[simp ↓ low] theorem sO_12 {s0 s1 s2 s3 s4 s5 s6 s7 s8 s9 s10 s11 : Option Sl} (z : 0 ≤ j ∧ j < ds.length) : siK 12 (s0 :: s1 :: s2 :: s3 :: s4 :: s5 :: s6 :: s7 :: s8 :: s9 :: s10 :: s11 :: some (.ow n ds) :: r) m d (.int j) h kO = kO (.nx (s0 :: s1 :: s2 :: s3 :: s4 :: s5 :: s6 :: s7 :: s8 :: s9 :: s10 :: s11 :: some (.ow (n && m) (ds.set j.toNat d)) :: r)) := by
  unfold siK; rw [show gt (s0 :: s1 :: s2 :: s3 :: s4 :: s5 :: s6 :: s7 :: s8 :: s9 :: s10 :: s11 :: some (.ow n ds) :: r) 12 = some (.ow n ds) from rfl, setS_ow, ixN_in z]; rfl
@[simp ↓] theorem sOm_12 {s0 s1 s2 s3 s4 s5 s6 s7 s8 s9 s10 s11 : Option Sl} (q : 0 ≤ j ∧ j < xs.length) : siK 12 (s0 :: s1 :: s2 :: s3 :: s4 :: s5 :: s6 :: s7 :: s8 :: s9 :: s10 :: s11 :: some (.ow n (xs.map c)) :: r) m (c z) (.int j) h kO = kO (.nx (s0 :: s1 :: s2 :: s3 :: s4 :: s5 :: s6 :: s7 :: s8 :: s9 :: s10 :: s11 :: some (.ow (n && m) ((ist xs j z).map c)) :: r)) := by
  rw [sO_12 (by rw [List.length_map]; exact q), map_set]; rfl
@[simp ↓ low] theorem sO_13 {s0 s1 s2 s3 s4 s5 s6 s7 s8 s9 s10 s11 s12 : Option Sl} (z : 0 ≤ j ∧ j < ds.length) : siK 13 (s0 :: s1 :: s2 :: s3 :: s4 :: s5 :: s6 :: s7 :: s8 :: s9 :: s10 :: s11 :: s12 :: some (.ow n ds) :: r) m d (.int j) h kO = kO (.nx (s0 :: s1 :: s2 :: s3 :: s4 :: s5 :: s6 :: s7 :: s8 :: s9 :: s10 :: s11 :: s12 :: some (.ow (n && m) (ds.set j.toNat d)) :: r)) := by
  unfold siK; rw [show gt (s0 :: s1 :: s2 :: s3 :: s4 :: s5 :: s6 :: s7 :: s8 :: s9 :: s10 :: s11 :: s12 :: some (.ow n ds) :: r) 13 = some (.ow n ds) from rfl, setS_ow, ixN_in z]; rfl
@[simp ↓] theorem sOm_13 {s0 s1 s2 s3 s4 s5 s6 s7 s8 s9 s10 s11 s12 : Option Sl} (q : 0 ≤ j ∧ j < xs.length) : siK 13 (s0 :: s1 :: s2 :: s3 :: s4 :: s5 :: s6 :: s7 :: s8 :: s9 :: s10 :: s11 :: s12 :: some (.ow n (xs.map c)) :: r) m (c z) (.int j) h kO = kO (.nx (s0 :: s1 :: s2 :: s3 :: s4 :: s5 :: s6 :: s7 :: s8 :: s9 :: s10 :: s11 :: s12 :: some (.ow (n && m) ((ist xs j z).map c)) :: r)) := by
  rw [sO_13 (by rw [List.length_map]; exact q), map_set]; rfl
@[simp ↓ low] theorem sO_14 {s0 s1 s2 s3 s4 s5 s6 s7 s8 s9 s10 s11 s12 s13 : Option Sl} (z : 0 ≤ j ∧ j < ds.length) : siK 14 (s0 :: s1 :: s2 :: s3 :: s4 :: s5 :: s6 :: s7 :: s8 :: s9 :: s10 :: s11 :: s12 :: s13 :: some (.ow n ds) :: r) m d (.int j) h kO = kO (.nx (s0 :: s1 :: s2 :: s3 :: s4 :: s5 :: s6 :: s7 :: s8 :: s9 :: s10 :: s11 :: s12 :: s13 :: some (.ow (n && m) (ds.set j.toNat d)) :: r)) := by
  unfold siK; rw [show gt (s0 :: s1 :: s2 :: s3 :: s4 :: s5 :: s6 :: s7 :: s8 :: s9 :: s10 :: s11 :: s12 :: s13 :: some (.ow n ds) :: r) 14 = some (.ow n ds) from rfl, setS_ow, ixN_in z]; rfl
@[simp ↓] theorem sOm_14 {s0 s1 s2 s3 s4 s5 s6 s7 s8 s9 s10 s11 s12 s13 : Option Sl} (q : 0 ≤ j ∧ j < xs.length) : siK 14 (s0 :: s1 :: s2 :: s3 :: s4 :: s5 :: s6 :: s7 :: s8 :: s9 :: s10 :: s11 :: s12 :: s13 :: some (.ow n (xs.map c)) :: r) m (c z) (.int j) h kO = kO (.nx (s0 :: s1 :: s2 :: s3 :: s4 :: s5 :: s6 :: s7 :: s8 :: s9 :: s10 :: s11 :: s12 :: s13 :: some (.ow (n && m) ((ist xs j z).map c)) :: r)) := by
  rw [sO_14 (by rw [List.length_map]; exact q), map_set]; rfl
@[simp ↓ low] theorem sO_15 {s0 s1 s2 s3 s4 s5 s6 s7 s8 s9 s10 s11 s12 s13 s14 : Option Sl} (z : 0 ≤ j ∧ j < ds.length) : siK 15 (s0 :: s1 :: s2 :: s3 :: s4 :: s5 :: s6 :: s7 :: s8 :: s9 :: s10 :: s11 :: s12 :: s13 :: s14 :: some (.ow n ds) :: r) m d (.int j) h kO = kO (.nx (s0 :: s1 :: s2 :: s3 :: s4 :: s5 :: s6 :: s7 :: s8 :: s9 :: s10 :: s11 :: s12 :: s13 :: s14 :: some (.ow (n && m) (ds.set j.toNat d)) :: r)) := by
  unfold siK; rw [show gt (s0 :: s1 :: s2 :: s3 :: s4 :: s5 :: s6 :: s7 :: s8 :: s9 :: s10 :: s11 :: s12 :: s13 :: s14 :: some (.ow n ds) :: r) 15 = some (.ow n ds) from rfl, setS_ow, ixN_in z]; rfl
@[simp ↓] theorem sOm_15 {s0 s1 s2 s3 s4 s5 s6 s7 s8 s9 s10 s11 s12 s13 s14 : Option Sl} (q : 0 ≤ j ∧ j < xs.length) : siK 15 (s0 :: s1 :: s2 :: s3 :: s4 :: s5 :: s6 :: s7 :: s8 :: s9 :: s10 :: s11 :: s12 :: s13 :: s14 :: some (.ow n (xs.map c)) :: r) m (c z) (.int j) h kO = kO (.nx (s0 :: s1 :: s2 :: s3 :: s4 :: s5 :: s6 :: s7 :: s8 :: s9 :: s10 :: s11 :: s12 :: s13 :: s14 :: some (.ow (n && m) ((ist xs j z).map c)) :: r)) := by
  rw [sO_15 (by rw [List.length_map]; exact q), map_set]; rfl
@[simp ↓ low] theorem sO_16 {s0 s1 s2 s3 s4 s5 s6 s7 s8 s9 s10 s11 s12 s13 s14 s15 : Option Sl} (z : 0 ≤ j ∧ j < ds.length) : siK 16 (s0 :: s1 :: s2 :: s3 :: s4 :: s5 :: s6 :: s7 :: s8 :: s9 :: s10 :: s11 :: s12 :: s13 :: s14 :: s15 :: some (.ow n ds) :: r) m d (.int j) h kO = kO (.nx (s0 :: s1 :: s2 :: s3 :: s4 :: s5 :: s6 :: s7 :: s8 :: s9 :: s10 :: s11 :: s12 :: s13 :: s14 :: s15 :: some (.ow (n && m) (ds.set j.toNat d)) :: r)) := by
  unfold siK; rw [show gt (s0 :: s1 :: s2 :: s3 :: s4 :: s5 :: s6 :: s7 :: s8 :: s9 :: s10 :: s11 :: s12 :: s13 :: s14 :: s15 :: some (.ow n ds) :: r) 16 = some (.ow n ds) from rfl, setS_ow, ixN_in z]; rfl
@[simp ↓] theorem sOm_16 {s0 s1 s2 s3 s4 s5 s6 s7 s8 s9 s10 s11 s12 s13 s14 s15 : Option Sl} (q : 0 ≤ j ∧ j < xs.length) : siK 16 (s0 :: s1 :: s2 :: s3 :: s4 :: s5 :: s6 :: s7 :: s8 :: s9 :: s10 :: s11 :: s12 :: s13 :: s14 :: s15 :: some (.ow n (xs.map c)) :: r) m (c z) (.int j) h kO = kO (.nx (s0 :: s1 :: s2 :: s3 :: s4 :: s5 :: s6 :: s7 :: s8 :: s9 :: s10 :: s11 :: s12 :: s13 :: s14 :: s15 :: some (.ow (n && m) ((ist xs j z).map c)) :: r)) := by
  rw [sO_16 (by rw [List.length_map]; exact q), map_set]; rfl
@[simp ↓ low] theorem sO_17 {s0 s1 s2 s3 s4 s5 s6 s7 s8 s9 s10 s11 s12 s13 s14 s15 s16 : Option Sl} (z : 0 ≤ j ∧ j < ds.length) : siK 17 (s0 :: s1 :: s2 :: s3 :: s4 :: s5 :: s6 :: s7 :: s8 :: s9 :: s10 :: s11 :: s12 :: s13 :: s14 :: s15 :: s16 :: some (.ow n ds) :: r) m d (.int j) h kO = kO (.nx (s0 :: s1 :: s2 :: s3 :: s4 :: s5 :: s6 :: s7 :: s8 :: s9 :: s10 :: s11 :: s12 :: s13 :: s14 :: s15 :: s16 :: some (.ow (n && m) (ds.set j.toNat d)) :: r)) := by
  unfold siK; rw [show gt (s0 :: s1 :: s2 :: s3 :: s4 :: s5 :: s6 :: s7 :: s8 :: s9 :: s10 :: s11 :: s12 :: s13 :: s14 :: s15 :: s16 :: some (.ow n ds) :: r) 17 = some (.ow n ds) from rfl, setS_ow, ixN_in z]; rfl
@[simp ↓] theorem sOm_17 {s0 s1 s2 s3 s4 s5 s6 s7 s8 s9 s10 s11 s12 s13 s14 s15 s16 : Option Sl} (q : 0 ≤ j ∧ j < xs.length) : siK 17 (s0 :: s1 :: s2 :: s3 :: s4 :: s5 :: s6 :: s7 :: s8 :: s9 :: s10 :: s11 :: s12 :: s13 :: s14 :: s15 :: s16 :: some (.ow n (xs.map c)) :: r) m (c z) (.int j) h kO = kO (.nx (s0 :: s1 :: s2 :: s3 :: s4 :: s5 :: s6 :: s7 :: s8 :: s9 :: s10 :: s11 :: s12 :: s13 :: s14 :: s15 :: s16 :: some (.ow (n && m) ((ist xs j z).map c)) :: r)) := by
  rw [sO_17 (by rw [List.length_map]; exact q), map_set]; rfl
@[simp ↓ low] theorem sO_18 {s0 s1 s2 s3 s4 s5 s6 s7 s8 s9 s10 s11 s12 s13 s14 s15 s16 s17 : Option Sl} (z : 0 ≤ j ∧ j < ds.length) : siK 18 (s0 :: s1 :: s2 :: s3 :: s4 :: s5 :: s6 :: s7 :: s8 :: s9 :: s10 :: s11 :: s12 :: s13 :: s14 :: s15 :: s16 :: s17 :: some (.ow n ds) :: r) m d (.int j) h kO = kO (.nx (s0 :: s1 :: s2 :: s3 :: s4 :: s5 :: s6 :: s7 :: s8 :: s9 :: s10 :: s11 :: s12 :: s13 :: s14 :: s15 :: s16 :: s17 :: some (.ow (n && m) (ds.set j.toNat d)) :: r)) := by
  unfold siK; rw [show gt (s0 :: s1 :: s2 :: s3 :: s4 :: s5 :: s6 :: s7 :: s8 :: s9 :: s10 :: s11 :: s12 :: s13 :: s14 :: s15 :: s16 :: s17 :: some (.ow n ds) :: r) 18 = some (.ow n ds) from rfl, setS_ow, ixN_in z]; rfl
@[simp ↓] theorem sOm_18 {s0 s1 s2 s3 s4 s5 s6 s7 s8 s9 s10 s11 s12 s13 s14 s15 s16 s17 : Option Sl} (q : 0 ≤ j ∧ j < xs.length) : siK 18 (s0 :: s1 :: s2 :: s3 :: s4 :: s5 :: s6 :: s7 :: s8 :: s9 :: s10 :: s11 :: s12 :: s13 :: s14 :: s15 :: s16 :: s17 :: some (.ow n (xs.map c)) :: r) m (c z) (.int j) h kO = kO (.nx (s0 :: s1 :: s2 :: s3 :: s4 :: s5 :: s6 :: s7 :: s8 :: s9 :: s10 :: s11 :: s12 :: s13 :: s14 :: s15 :: s16 :: s17 :: some (.ow (n && m) ((ist xs j z).map c)) :: r)) := by
  rw [sO_18 (by rw [List.length_map]; exact q), map_set]; rfl
@[simp ↓ low] theorem sO_19 {s0 s1 s2 s3 s4 s5 s6 s7 s8 s9 s10 s11 s12 s13 s14 s15 s16 s17 s18 : Option Sl} (z : 0 ≤ j ∧ j < ds.length) : siK 19 (s0 :: s1 :: s2 :: s3 :: s4 :: s5 :: s6 :: s7 :: s8 :: s9 :: s10 :: s11 :: s12 :: s13 :: s14 :: s15 :: s16 :: s17 :: s18 :: some (.ow n ds) :: r) m d (.int j) h kO = kO (.nx (s0 :: s1 :: s2 :: s3 :: s4 :: s5 :: s6 :: s7 :: s8 :: s9 :: s10 :: s11 :: s12 :: s13 :: s14 :: s15 :: s16 :: s17 :: s18 :: some (.ow (n && m) (ds.set j.toNat d)) :: r)) := by
  unfold siK; rw [show gt (s0 :: s1 :: s2 :: s3 :: s4 :: s5 :: s6 :: s7 :: s8 :: s9 :: s10 :: s11 :: s12 :: s13 :: s14 :: s15 :: s16 :: s17 :: s18 :: some (.ow n ds) :: r) 19 = some (.ow n ds) from rfl, setS_ow, ixN_in z]; rfl
@[simp ↓] theorem sOm_19 {s0 s1 s2 s3 s4 s5 s6 s7 s8 s9 s10 s11 s12 s13 s14 s15 s16 s17 s18 : Option Sl} (q : 0 ≤ j ∧ j < xs.length) : siK 19 (s0 :: s1 :: s2 :: s3 :: s4 :: s5 :: s6 :: s7 :: s8 :: s9 :: s10 :: s11 :: s12 :: s13 :: s14 :: s15 :: s16 :: s17 :: s18 :: some (.ow n (xs.map c)) :: r) m (c z) (.int j) h kO = kO (.nx (s0 :: s1 :: s2 :: s3 :: s4 :: s5 :: s6 :: s7 :: s8 :: s9 :: s10 :: s11 :: s12 :: s13 :: s14 :: s15 :: s16 :: s17 :: s18 :: some (.ow (n && m) ((ist xs j z).map c)) :: r)) := by
  rw [sO_19 (by rw [List.length_map]; exact q), map_set]; rfl
@[simp ↓ low] theorem sO_20 {s0 s1 s2 s3 s4 s5 s6 s7 s8 s9 s10 s11 s12 s13 s14 s15 s16 s17 s18 s19 : Option Sl} (z : 0 ≤ j ∧ j < ds.length) : siK 20 (s0 :: s1 :: s2 :: s3 :: s4 :: s5 :: s6 :: s7 :: s8 :: s9 :: s10 :: s11 :: s12 :: s13 :: s14 :: s15 :: s16 :: s17 :: s18 :: s19 :: some (.ow n ds) :: r) m d (.int j) h kO = kO (.nx (s0 :: s1 :: s2 :: s3 :: s4 :: s5 :: s6 :: s7 :: s8 :: s9 :: s10 :: s11 :: s12 :: s13 :: s14 :: s15 :: s16 :: s17 :: s18 :: s19 :: some (.ow (n && m) (ds.set j.toNat d)) :: r)) := by
  unfold siK; rw [show gt (s0 :: s1 :: s2 :: s3 :: s4 :: s5 :: s6 :: s7 :: s8 :: s9 :: s10 :: s11 :: s12 :: s13 :: s14 :: s15 :: s16 :: s17 :: s18 :: s19 :: some (.ow n ds) :: r) 20 = some (.ow n ds) from rfl, setS_ow, ixN_in z]; rfl
@[simp ↓] theorem sOm_20 {s0 s1 s2 s3 s4 s5 s6 s7 s8 s9 s10 s11 s12 s13 s14 s15 s16 s17 s18 s19 : Option Sl} (q : 0 ≤ j ∧ j < xs.length) : siK 20 (s0 :: s1 :: s2 :: s3 :: s4 :: s5 :: s6 :: s7 :: s8 :: s9 :: s10 :: s11 :: s12 :: s13 :: s14 :: s15 :: s16 :: s17 :: s18 :: s19 :: some (.ow n (xs.map c)) :: r) m (c z) (.int j) h kO = kO (.nx (s0 :: s1 :: s2 :: s3 :: s4 :: s5 :: s6 :: s7 :: s8 :: s9 :: s10 :: s11 :: s12 :: s13 :: s14 :: s15 :: s16 :: s17 :: s18 :: s19 :: some (.ow (n && m) ((ist xs j z).map c)) :: r)) := by
  rw [sO_20 (by rw [List.length_map]; exact q), map_set]; rfl
@[simp ↓ low] theorem sO_21 {s0 s1 s2 s3 s4 s5 s6 s7 s8 s9 s10 s11 s12 s13 s14 s15 s16 s17 s18 s19 s20 : Option Sl} (z : 0 ≤ j ∧ j < ds.length) : siK 21 (s0 :: s1 :: s2 :: s3 :: s4 :: s5 :: s6 :: s7 :: s8 :: s9 :: s10 :: s11 :: s12 :: s13 :: s14 :: s15 :: s16 :: s17 :: s18 :: s19 :: s20 :: some (.ow n ds) :: r) m d (.int j) h kO = kO (.nx (s0 :: s1 :: s2 :: s3 :: s4 :: s5 :: s6 :: s7 :: s8 :: s9 :: s10 :: s11 :: s12 :: s13 :: s14 :: s15 :: s16 :: s17 :: s18 :: s19 :: s20 :: some (.ow (n && m) (ds.set j.toNat d)) :: r)) := by
  unfold siK; rw [show gt (s0 :: s1 :: s2 :: s3 :: s4 :: s5 :: s6 :: s7 :: s8 :: s9 :: s10 :: s11 :: s12 :: s13 :: s14 :: s15 :: s16 :: s17 :: s18 :: s19 :: s20 :: some (.ow n ds) :: r) 21 = some (.ow n ds) from rfl, setS_ow, ixN_in z]; rfl
@[simp ↓] theorem sOm_21 {s0 s1 s2 s3 s4 s5 s6 s7 s8 s9 s10 s11 s12 s13 s14 s15 s16 s17 s18 s19 s20 : Option Sl} (q : 0 ≤ j ∧ j < xs.length) : siK 21 (s0 :: s1 :: s2 :: s3 :: s4 :: s5 :: s6 :: s7 :: s8 :: s9 :: s10 :: s11 :: s12 :: s13 :: s14 :: s15 :: s16 :: s17 :: s18 :: s19 :: s20 :: some (.ow n (xs.map c)) :: r) m (c z) (.int j) h kO = kO (.nx (s0 :: s1 :: s2 :: s3 :: s4 :: s5 :: s6 :: s7 :: s8 :: s9 :: s10 :: s11 :: s12 :: s13 :: s14 :: s15 :: s16 :: s17 :: s18 :: s19 :: s20 :: some (.ow (n && m) ((ist xs j z).map c)) :: r)) := by
  rw [sO_21 (by rw [List.length_map]; exact q), map_set]; rfl
@[simp ↓ low] theorem sO_22 {s0 s1 s2 s3 s4 s5 s6 s7 s8 s9 s10 s11 s12 s13 s14 s15 s16 s17 s18 s19 s20 s21 : Option Sl} (z : 0 ≤ j ∧ j < ds.length) : siK 22 (s0 :: s1 :: s2 :: s3 :: s4 :: s5 :: s6 :: s7 :: s8 :: s9 :: s10 :: s11 :: s12 :: s13 :: s14 :: s15 :: s16 :: s17 :: s18 :: s19 :: s20 :: s21 :: some (.ow n ds) :: r) m d (.int j) h kO = kO (.nx (s0 :: s1 :: s2 :: s3 :: s4 :: s5 :: s6 :: s7 :: s8 :: s9 :: s10 :: s11 :: s12 :: s13 :: s14 :: s15 :: s16 :: s17 :: s18 :: s19 :: s20 :: s21 :: some (.ow (n && m) (ds.set j.toNat d)) :: r)) := by
  unfold siK; rw [show gt (s0 :: s1 :: s2 :: s3 :: s4 :: s5 :: s6 :: s7 :: s8 :: s9 :: s10 :: s11 :: s12 :: s13 :: s14 :: s15 :: s16 :: s17 :: s18 :: s19 :: s20 :: s21 :: some (.ow n ds) :: r) 22 = some (.ow n ds) from rfl, setS_ow, ixN_in z]; rfl
@[simp ↓] theorem sOm_22 {s0 s1 s2 s3 s4 s5 s6 s7 s8 s9 s10 s11 s12 s13 s14 s15 s16 s17 s18 s19 s20 s21 : Option Sl} (q : 0 ≤ j ∧ j < xs.length) : siK 22 (s0 :: s1 :: s2 :: s3 :: s4 :: s5 :: s6 :: s7 :: s8 :: s9 :: s10 :: s11 :: s12 :: s13 :: s14 :: s15 :: s16 :: s17 :: s18 :: s19 :: s20 :: s21 :: some (.ow n (xs.map c)) :: r) m (c z) (.int j) h kO = kO (.nx (s0 :: s1 :: s2 :: s3 :: s4 :: s5 :: s6 :: s7 :: s8 :: s9 :: s10 :: s11 :: s12 :: s13 :: s14 :: s15 :: s16 :: s17 :: s18 :: s19 :: s20 :: s21 :: some (.ow (n && m) ((ist xs j z).map c)) :: r)) := by
  rw [sO_22 (by rw [List.length_map]; exact q), map_set]; rfl
@[simp ↓ low] theorem sO_23 {s0 s1 s2 s3 s4 s5 s6 s7 s8 s9 s10 s11 s12 s13 s14 s15 s16 s17 s18 s19 s20 s21 s22 : Option Sl} (z : 0 ≤ j ∧ j < ds.length) : siK 23 (s0 :: s1 :: s2 :: s3 :: s4 :: s5 :: s6 :: s7 :: s8 :: s9 :: s10 :: s11 :: s12 :: s13 :: s14 :: s15 :: s16 :: s17 :: s18 :: s19 :: s20 :: s21 :: s22 :: some (.ow n ds) :: r) m d (.int j) h kO = kO (.nx (s0 :: s1 :: s2 :: s3 :: s4 :: s5 :: s6 :: s7 :: s8 :: s9 :: s10 :: s11 :: s12 :: s13 :: s14 :: s15 :: s16 :: s17 :: s18 :: s19 :: s20 :: s21 :: s22 :: some (.ow (n && m) (ds.set j.toNat d)) :: r)) := by
  unfold siK; rw [show gt (s0 :: s1 :: s2 :: s3 :: s4 :: s5 :: s6 :: s7 :: s8 :: s9 :: s10 :: s11 :: s12 :: s13 :: s14 :: s15 :: s16 :: s17 :: s18 :: s19 :: s20 :: s21 :: s22 :: some (.ow n ds) :: r) 23 = some (.ow n ds) from rfl, setS_ow, ixN_in z]; rfl
@[simp ↓] theorem sOm_23 {s0 s1 s2 s3 s4 s5 s6 s7 s8 s9 s10 s11 s12 s13 s14 s15 s16 s17 s18 s19 s20 s21 s22 : Option Sl} (q : 0 ≤ j ∧ j < xs.length) : siK 23 (s0 :: s1 :: s2 :: s3 :: s4 :: s5 :: s6 :: s7 :: s8 :: s9 :: s10 :: s11 :: s12 :: s13 :: s14 :: s15 :: s16 :: s17 :: s18 :: s19 :: s20 :: s21 :: s22 :: some (.ow n (xs.map c)) :: r) m (c z) (.int j) h kO = kO (.nx (s0 :: s1 :: s2 :: s3 :: s4 :: s5 :: s6 :: s7 :: s8 :: s9 :: s10 :: s11 :: s12 :: s13 :: s14 :: s15 :: s16 :: s17 :: s18 :: s19 :: s20 :: s21 :: s22 :: some (.ow (n && m) ((ist xs j z).map c)) :: r)) := by
  rw [sO_23 (by rw [List.length_map]; exact q), map_set]; rfl
@[simp ↓ low] theorem sO_24 {s0 s1 s2 s3 s4 s5 s6 s7 s8 s9 s10 s11 s12 s13 s14 s15 s16 s17 s18 s19 s20 s21 s22 s23 : Option Sl} (z : 0 ≤ j ∧ j < ds.length) : siK 24 (s0 :: s1 :: s2 :: s3 :: s4 :: s5 :: s6 :: s7 :: s8 :: s9 :: s10 :: s11 :: s12 :: s13 :: s14 :: s15 :: s16 :: s17 :: s18 :: s19 :: s20 :: s21 :: s22 :: s23 :: some (.ow n ds) :: r) m d (.int j) h kO = kO (.nx (s0 :: s1 :: s2 :: s3 :: s4 :: s5 :: s6 :: s7 :: s8 :: s9 :: s10 :: s11 :: s12 :: s13 :: s14 :: s15 :: s16 :: s17 :: s18 :: s19 :: s20 :: s21 :: s22 :: s23 :: some (.ow (n && m) (ds.set j.toNat d)) :: r)) := by
  unfold siK; rw [show gt (s0 :: s1 :: s2 :: s3 :: s4 :: s5 :: s6 :: s7 :: s8 :: s9 :: s10 :: s11 :: s12 :: s13 :: s14 :: s15 :: s16 :: s17 :: s18 :: s19 :: s20 :: s21 :: s22 :: s23 :: some (.ow n ds) :: r) 24 = some (.ow n ds) from rfl, setS_ow, ixN_in z]; rfl
@[simp ↓] theorem sOm_24 {s0 s1 s2 s3 s4 s5 s6 s7 s8 s9 s10 s11 s12 s13 s14 s15 s16 s17 s18 s19 s20 s21 s22 s23 : Option Sl} (q : 0 ≤ j ∧ j < xs.length) : siK 24 (s0 :: s1 :: s2 :: s3 :: s4 :: s5 :: s6 :: s7 :: s8 :: s9 :: s10 :: s11 :: s12 :: s13 :: s14 :: s15 :: s16 :: s17 :: s18 :: s19 :: s20 :: s21 :: s22 :: s23 :: some (.ow n (xs.map c)) :: r) m (c z) (.int j) h kO = kO (.nx (s0 :: s1 :: s2 :: s3 :: s4 :: s5 :: s6 :: s7 :: s8 :: s9 :: s10 :: s11 :: s12 :: s13 :: s14 :: s15 :: s16 :: s17 :: s18 :: s19 :: s20 :: s21 :: s22 :: s23 :: some (.ow (n && m) ((ist xs j z).map c)) :: r)) := by
  rw [sO_24 (by rw [List.length_map]; exact q), map_set]; rfl
@[simp ↓ low] theorem sO_25 {s0 s1 s2 s3 s4 s5 s6 s7 s8 s9 s10 s11 s12 s13 s14 s15 s16 s17 s18 s19 s20 s21 s22 s23 s24 : Option Sl} (z : 0 ≤ j ∧ j < ds.length) : siK 25 (s0 :: s1 :: s2 :: s3 :: s4 :: s5 :: s6 :: s7 :: s8 :: s9 :: s10 :: s11 :: s12 :: s13 :: s14 :: s15 :: s16 :: s17 :: s18 :: s19 :: s20 :: s21 :: s22 :: s23 :: s24 :: some (.ow n ds) :: r) m d (.int j) h kO = kO (.nx (s0 :: s1 :: s2 :: s3 :: s4 :: s5 :: s6 :: s7 :: s8 :: s9 :: s10 :: s11 :: s12 :: s13 :: s14 :: s15 :: s16 :: s17 :: s18 :: s19 :: s20 :: s21 :: s22 :: s23 :: s24 :: some (.ow (n && m) (ds.set j.toNat d)) :: r)) := by
  unfold siK; rw [show gt (s0 :: s1 :: s2 :: s3 :: s4 :: s5 :: s6 :: s7 :: s8 :: s9 :: s10 :: s11 :: s12 :: s13 :: s14 :: s15 :: s16 :: s17 :: s18 :: s19 :: s20 :: s21 :: s22 :: s23 :: s24 :: some (.ow n ds) :: r) 25 = some (.ow n ds) from rfl, setS_ow, ixN_in z]; rfl
@[simp ↓] theorem sOm_25 {s0 s1 s2 s3 s4 s5 s6 s7 s8 s9 s10 s11 s12 s13 s14 s15 s16 s17 s18 s19 s20 s21 s22 s23 s24 : Option Sl} (q : 0 ≤ j ∧ j < xs.length) : siK 25 (s0 :: s1 :: s2 :: s3 :: s4 :: s5 :: s6 :: s7 :: s8 :: s9 :: s10 :: s11 :: s12 :: s13 :: s14 :: s15 :: s16 :: s17 :: s18 :: s19 :: s20 :: s21 :: s22 :: s23 :: s24 :: some (.ow n (xs.map c)) :: r) m (c z) (.int j) h kO = kO (.nx (s0 :: s1 :: s2 :: s3 :: s4 :: s5 :: s6 :: s7 :: s8 :: s9 :: s10 :: s11 :: s12 :: s13 :: s14 :: s15 :: s16 :: s17 :: s18 :: s19 :: s20 :: s21 :: s22 :: s23 :: s24 :: some (.ow (n && m) ((ist xs j z).map c)) :: r)) := by
  rw [sO_25 (by rw [List.length_map]; exact q), map_set]; rfl
@[simp ↓ low] theorem sO_26 {s0 s1 s2 s3 s4 s5 s6 s7 s8 s9 s10 s11 s12 s13 s14 s15 s16 s17 s18 s19 s20 s21 s22 s23 s24 s25 : Option Sl} (z : 0 ≤ j ∧ j < ds.length) : siK 26 (s0 :: s1 :: s2 :: s3 :: s4 :: s5 :: s6 :: s7 :: s8 :: s9 :: s10 :: s11 :: s12 :: s13 :: s14 :: s15 :: s16 :: s17 :: s18 :: s19 :: s20 :: s21 :: s22 :: s23 :: s24 :: s25 :: some (.ow n ds) :: r) m d (.int j) h kO = kO (.nx (s0 :: s1 :: s2 :: s3 :: s4 :: s5 :: s6 :: s7 :: s8 :: s9 :: s10 :: s11 :: s12 :: s13 :: s14 :: s15 :: s16 :: s17 :: s18 :: s19 :: s20 :: s21 :: s22 :: s23 :: s24 :: s25 :: some (.ow (n && m) (ds.set j.toNat d)) :: r)) := by
  unfold siK; rw [show gt (s0 :: s1 :: s2 :: s3 :: s4 :: s5 :: s6 :: s7 :: s8 :: s9 :: s10 :: s11 :: s12 :: s13 :: s14 :: s15 :: s16 :: s17 :: s18 :: s19 :: s20 :: s21 :: s22 :: s23 :: s24 :: s25 :: some (.ow n ds) :: r) 26 = some (.ow n ds) from rfl, setS_ow, ixN_in z]; rfl
@[simp ↓] theorem sOm_26 {s0 s1 s2 s3 s4 s5 s6 s7 s8 s9 s10 s11 s12 s13 s14 s15 s16 s17 s18 s19 s20 s21 s22 s23 s24 s25 : Option Sl} (q : 0 ≤ j ∧ j < xs.length) : siK 26 (s0 :: s1 :: s2 :: s3 :: s4 :: s5 :: s6 :: s7 :: s8 :: s9 :: s10 :: s11 :: s12 :: s13 :: s14 :: s15 :: s16 :: s17 :: s18 :: s19 :: s20 :: s21 :: s22 :: s23 :: s24 :: s25 :: some (.ow n (xs.map c)) :: r) m (c z) (.int j) h kO = kO (.nx (s0 :: s1 :: s2 :: s3 :: s4 :: s5 :: s6 :: s7 :: s8 :: s9 :: s10 :: s11 :: s12 :: s13 :: s14 :: s15 :: s16 :: s17 :: s18 :: s19 :: s20 :: s21 :: s22 :: s23 :: s24 :: s25 :: some (.ow (n && m) ((ist xs j z).map c)) :: r)) := by
  rw [sO_26 (by rw [List.length_map]; exact q), map_set]; rfl
@[simp ↓ low] theorem sO_27 {s0 s1 s2 s3 s4 s5 s6 s7 s8 s9 s10 s11 s12 s13 s14 s15 s16 s17 s18 s19 s20 s21 s22 s23 s24 s25 s26 : Option Sl} (z : 0 ≤ j ∧ j < ds.length) : siK 27 (s0 :: s1 :: s2 :: s3 :: s4 :: s5 :: s6 :: s7 :: s8 :: s9 :: s10 :: s11 :: s12 :: s13 :: s14 :: s15 :: s16 :: s17 :: s18 :: s19 :: s20 :: s21 :: s22 :: s23 :: s24 :: s25 :: s26 :: some (.ow n ds) :: r) m d (.int j) h kO = kO (.nx (s0 :: s1 :: s2 :: s3 :: s4 :: s5 :: s6 :: s7 :: s8 :: s9 :: s10 :: s11 :: s12 :: s13 :: s14 :: s15 :: s16 :: s17 :: s18 :: s19 :: s20 :: s21 :: s22 :: s23 :: s24 :: s25 :: s26 :: some (.ow (n && m) (ds.set j.toNat d)) :: r)) := by
  unfold siK; rw [show gt (s0 :: s1 :: s2 :: s3 :: s4 :: s5 :: s6 :: s7 :: s8 :: s9 :: s10 :: s11 :: s12 :: s13 :: s14 :: s15 :: s16 :: s17 :: s18 :: s19 :: s20 :: s21 :: s22 :: s23 :: s24 :: s25 :: s26 :: some (.ow n ds) :: r) 27 = some (.ow n ds) from rfl, setS_ow, ixN_in z]; rfl
@[simp ↓] theorem sOm_27 {s0 s1 s2 s3 s4 s5 s6 s7 s8 s9 s10 s11 s12 s13 s14 s15 s16 s17 s18 s19 s20 s21 s22 s23 s24 s25 s26 : Option Sl} (q : 0 ≤ j ∧ j < xs.length) : siK 27 (s0 :: s1 :: s2 :: s3 :: s4 :: s5 :: s6 :: s7 :: s8 :: s9 :: s10 :: s11 :: s12 :: s13 :: s14 :: s15 :: s16 :: s17 :: s18 :: s19 :: s20 :: s21 :: s22 :: s23 :: s24 :: s25 :: s26 :: some (.ow n (xs.map c)) :: r) m (c z) (.int j) h kO = kO (.nx (s0 :: s1 :: s2 :: s3 :: s4 :: s5 :: s6 :: s7 :: s8 :: s9 :: s10 :: s11 :: s12 :: s13 :: s14 :: s15 :: s16 :: s17 :: s18 :: s19 :: s20 :: s21 :: s22 :: s23 :: s24 :: s25 :: s26 :: some (.ow (n && m) ((ist xs j z).map c)) :: r)) := by
  rw [sO_27 (by rw [List.length_map]; exact q), map_set]; rfl
end
end Dn
namespace Dn
open PySem PySem.Spec L2 A1 A2 A3
theorem range_at {n i j : Nat} (h : (List.range n)[i]? = some j) : i < n ∧ j = i := by
  by_cases hi : i < n
  · rw [List.getElem?_range hi] at h; cases h; exact ⟨hi, rfl⟩
  · rw [List.getElem?_eq_none (by simpa using hi)] at h; cases h
section
variable {β : Type} {h : HX β} {g : FG} {body : FS} {e : Env}
theorem cL_list {α : Type} {ys : List α} {c : α → PyData} {n : Bool} {k : Out → Rs β} {res : Rs β} (E : Nat → Env) (h0 : e = E 0) (ht : ∀ i y, ys[i]? = some y → (g (n, c y) (E i)).bind body = .ok (.nx (E (i + 1)))) (hk : k (.nx (E ys.length)) = res) :
    cL g body (wk n (ys.map c)) e h k = res := by
  subst h0
  refine (cL_ok (fLoop_at E _ fun i x hx => ?_)).trans (by unfold wk; rw [List.length_map, List.length_map]; exact hk)
  unfold wk at hx
  rw [List.getElem?_map, List.getElem?_map] at hx
  cases q : ys[i]? with
  | none => rw [q] at hx; cases hx
  | some y => rw [q] at hx; cases hx; exact ht i y q
theorem fLoop_inv {α : Type} {ys : List α} {c : α → PyData} {n : Bool} (I : Nat → Env → Prop) (h0 : I 0 e) (ht : ∀ i y e, ys[i]? = some y → I i e → ∃ e', (g (n, c y) e).bind body = .ok (.nx e') ∧ I (i + 1) e') :
    ∃ e', I ys.length e' ∧ fLoop g body (wk n (ys.map c)) e = .ok (.nx e') := by
  have key : ∀ (zs : List α) (j : Nat) (e : Env), ys.drop j = zs → I j e → ∃ e', I (j + zs.length) e' ∧ fLoop g body (wk n (zs.map c)) e = .ok (.nx e') := by
    intro zs
    induction zs with
    | nil => exact fun j e _ hI => ⟨e, hI, rfl⟩
    | cons z zs ih =>
      intro j e hz hI
      have hj : ys[j]? = some z := by
        have := congrArg (fun l => l[0]?) hz
        simpa [List.getElem?_drop] using this
      obtain ⟨e1, h1, h2⟩ := ht j z e hj hI
      have hd : ys.drop (j + 1) = zs := by
        have := congrArg (List.drop 1) hz
        simpa [List.drop_drop, Nat.add_comm] using this
      obtain ⟨e2, h3, h4⟩ := ih (j + 1) e1 hd h2
      refine ⟨e2, by rw [List.length_cons, show j + (zs.length + 1) = j + 1 + zs.length by omega]; exact h3, ?_⟩
      show fLoop g body ((n, c z) :: wk n (zs.map c)) e = _
      rw [fLoop_cons, ← h4]
      cases q : g (n, c z) e with
      | bad => rw [q] at h1; cases h1
      | ex e y => rw [q] at h1; cases h1
      | ch _ _ => rw [q] at h1; cases h1
      | ok e3 =>
        rw [q] at h1
        have h1 : body e3 = .ok (.nx e1) := h1
        show (body e3).bind _ = _
        rw [h1]; rfl
  simpa using key ys 0 e rfl h0
end
def lcE (own : List Nat) (g : FG) (t : FT) (el : FV) (n : Bool) (d : PyData) (e : Env) : Rs (Env × Option Dv) :=
  cG g n d e (fun _ _ => .bad) fun e1 => cT t e1 (fun _ _ => .bad) fun b => ifK b (cV el e1 (fun _ _ => .bad) fun e2 m d' => cW own e2 fun e3 => .ok (e3, some (m, d'))) (cW own e1 fun e3 => .ok (e3, none))
theorem noex_on {α β : Type} (r : Rs α) (k : α → Rs β) : (noex r).bind k = on r (fun _ _ => .bad) k := by
  induction r with
  | ch m f ih => exact congrArg (Rs.ch m) (funext ih)
  | _ => rfl
section
variable {own : List Nat} {g : FG} {t : FT} {el : FV} {e e0 e1 : Env}
theorem fLcL_step {x : Dv} {xs acc : List Dv} {o : Option Dv} (h : lcE own g t el x.1 x.2 e = .ok (e0, o)) (hz : acc.length < 1000000) : fLcL own g t el (x :: xs) e acc = fLcL own g t el xs e0 (acc ++ o.toList) := by
  obtain ⟨n, d⟩ := x
  show (noex (g (n, d) e)).bind _ = _
  unfold lcE cG at h
  dsimp only at h
  cases q1 : g (n, d) e with
  | bad => rw [q1] at h; cases h
  | ex e y => rw [q1] at h; cases h
  | ch _ _ => rw [q1] at h; cases h
  | ok e1 =>
    rw [q1] at h
    show (noex (t e1)).bind _ = _
    have h : cT t e1 (fun _ _ => .bad) (fun b => ifK b (cV el e1 (fun _ _ => .bad) fun e2 m d' => cW own e2 fun e3 => .ok (e3, some (m, d'))) (cW own e1 fun e3 => .ok (e3, none))) = .ok (e0, o) := h
    unfold cT at h
    cases q2 : t e1 with
    | bad => rw [q2] at h; cases h
    | ex e y => rw [q2] at h; cases h
    | ch _ _ => rw [q2] at h; cases h
    | ok b =>
      rw [q2] at h
      cases b with
      | true =>
        have h : cV el e1 (fun _ _ => .bad) (fun e2 m d' => cW own e2 fun e3 => .ok (e3, some (m, d'))) = .ok (e0, o) := h
        unfold cV at h
        show (noex (el e1)).bind _ = _
        cases q3 : el e1 with
        | bad => rw [q3] at h; cases h
        | ex e y => rw [q3] at h; cases h
        | ch _ _ => rw [q3] at h; cases h
        | ok p =>
          rw [q3] at h
          have h : (.ok (wipeE p.1 own, some (p.2.1, p.2.2)) : Rs (Env × Option Dv)) = .ok (e0, o) := h
          cases h
          show grd (decide (acc.length < 1000000)) _ = _
          rw [decide_eq_true hz]; rfl
      | false =>
        have h : (.ok (wipeE e1 own, none) : Rs (Env × Option Dv)) = .ok (e0, o) := h
        cases h
        show fLcL own g t el xs (wipeE e1 own) acc = _
        rw [show acc ++ (none : Option Dv).toList = acc from List.append_nil _]
theorem flags_const {α : Type} {m : Bool} {f : α → PyData} (xs : List α) : flags (xs.map fun x => (m, f x)) = (m || xs.isEmpty) := by
  cases m with
  | true => unfold flags; rw [List.all_map]; simp
  | false => cases xs <;> simp [flags]
theorem datas_const {α : Type} {m : Bool} {f : α → PyData} (xs : List α) : datas (xs.map fun x => (m, f x)) = xs.map f := by
  unfold datas; rw [List.map_map]; rfl
variable {β : Type} {h : HX β} {k : Env → R → Rs β}
theorem fLcL_typ {α γ : Type} {c : α → PyData} {n m : Bool} {c' : γ → PyData} {f : α → Option γ} : ∀ (ys : List α) (acc : List Dv), acc.length + ys.length ≤ 1000000 → (∀ y ∈ ys, lcE own g t el n (c y) e = .ok (e, (f y).map fun z => (m, c' z))) →
    fLcL own g t el (wk n (ys.map c)) e acc = .ok (e, acc ++ (ys.filterMap f).map fun z => (m, c' z))
  | [], acc, _, _ => by simp [fLcL, wk]
  | y :: ys, acc, hz, hx => by
    rw [List.length_cons] at hz
    rw [show wk n ((y :: ys).map c) = (n, c y) :: wk n (ys.map c) from rfl, fLcL_step (hx y List.mem_cons_self) (by omega)]
    have : (acc ++ ((f y).map fun z => (m, c' z)).toList).length + ys.length ≤ 1000000 := by
      cases f y <;> simp <;> omega
    rw [fLcL_typ ys _ this fun z hz => hx z (List.mem_cons_of_mem _ hz), List.filterMap_cons]
    cases f y <;> simp
theorem cLc_t {α γ : Type} {ys : List α} {c : α → PyData} {n m : Bool} {c' : γ → PyData} {res : Rs β} (f : α → Option γ) (hz : ys.length ≤ 1000000) (hw : wipeE e own = e) (ho : okOwn e own = true) (hb : backE e e own = e)
    (hx : ∀ y ∈ ys, lcE own g t el n (c y) e = .ok (e, (f y).map fun z => (m, c' z))) (hk : k e (.nw (m || (ys.filterMap f).isEmpty) ((ys.filterMap f).map c')) = res) :
    cLc own g t el (wk n (ys.map c)) e h k = res := by
  have h2 := fLcL_typ ys [] (by simpa using hz) hx
  rw [← hw] at h2
  rw [cLc_ok (e2 := e) (by rw [hw] at h2 ⊢; exact h2) ho hb, List.nil_append, flags_const, datas_const]
  exact hk
theorem cLc_m {α γ : Type} {ys : List α} {c : α → PyData} {n : Bool} {c' : γ → PyData} {res : Rs β} (f : α → γ) (hz : ys.length ≤ 1000000) (hw : wipeE e own = e) (ho : okOwn e own = true) (hb : backE e e own = e)
    (hx : ∀ y ∈ ys, lcE own g t el n (c y) e = .ok (e, some (true, c' (f y)))) (hk : k e (.nw true ((ys.map f).map c')) = res) :
    cLc own g t el (wk n (ys.map c)) e h k = res := by
  refine cLc_t (m := true) (c' := c') (fun y => some (f y)) hz hw ho hb hx ?_
  rw [List.filterMap_eq_map']; exact hk
end
end Dn
namespace Dn
open PySem PySem.Spec L2
section
variable {β : Type} {h : HX β} {env : Env}
theorem cs_0 : ("road " : Str) = SX.S [114, 111, 97, 100, 32] := by decide +kernel
@[simp ↓ high] theorem csr_0 {k : Env → Bool → PyData → Rs β} : cV (rd (fC (.str "road "))) env h k = k env true (cS [114, 111, 97, 100, 32]) := by rw [cs_0]; rfl
@[simp ↓ high] theorem css_0 {k : Env → Bool → PyData → Rs β} : cV (st (fC (.str "road "))) env h k = k env true (cS [114, 111, 97, 100, 32]) := by rw [cs_0]; rfl
@[simp ↓ high] theorem cse_0 {k : Env → R → Rs β} : cE (fC (.str "road ")) env h k = k env (.sh true (cS [114, 111, 97, 100, 32])) := by rw [cs_0]; rfl
theorem cs_1 : (" " : Str) = SX.S [32] := by decide +kernel
@[simp ↓ high] theorem csr_1 {k : Env → Bool → PyData → Rs β} : cV (rd (fC (.str " "))) env h k = k env true (cS [32]) := by rw [cs_1]; rfl
@[simp ↓ high] theorem css_1 {k : Env → Bool → PyData → Rs β} : cV (st (fC (.str " "))) env h k = k env true (cS [32]) := by rw [cs_1]; rfl
@[simp ↓ high] theorem cse_1 {k : Env → R → Rs β} : cE (fC (.str " ")) env h k = k env (.sh true (cS [32])) := by rw [cs_1]; rfl
theorem cs_2 : ("\n" : Str) = SX.S [10] := by decide +kernel
@[simp ↓ high] theorem csr_2 {k : Env → Bool → PyData → Rs β} : cV (rd (fC (.str "\n"))) env h k = k env true (cS [10]) := by rw [cs_2]; rfl
@[simp ↓ high] theorem css_2 {k : Env → Bool → PyData → Rs β} : cV (st (fC (.str "\n"))) env h k = k env true (cS [10]) := by rw [cs_2]; rfl
@[simp ↓ high] theorem cse_2 {k : Env → R → Rs β} : cE (fC (.str "\n")) env h k = k env (.sh true (cS [10])) := by rw [cs_2]; rfl
theorem cs_3 : ("places " : Str) = SX.S [112, 108, 97, 99, 101, 115, 32] := by decide +kernel
@[simp ↓ high] theorem csr_3 {k : Env → Bool → PyData → Rs β} : cV (rd (fC (.str "places "))) env h k = k env true (cS [112, 108, 97, 99, 101, 115, 32]) := by rw [cs_3]; rfl
@[simp ↓ high] theorem css_3 {k : Env → Bool → PyData → Rs β} : cV (st (fC (.str "places "))) env h k = k env true (cS [112, 108, 97, 99, 101, 115, 32]) := by rw [cs_3]; rfl
@[simp ↓ high] theorem cse_3 {k : Env → R → Rs β} : cE (fC (.str "places ")) env h k = k env (.sh true (cS [112, 108, 97, 99, 101, 115, 32])) := by rw [cs_3]; rfl
theorem cs_4 : ("" : Str) = SX.S [] := by decide +kernel
@[simp ↓ high] theorem csr_4 {k : Env → Bool → PyData → Rs β} : cV (rd (fC (.str ""))) env h k = k env true (cS []) := by rw [cs_4]; rfl
@[simp ↓ high] theorem css_4 {k : Env → Bool → PyData → Rs β} : cV (st (fC (.str ""))) env h k = k env true (cS []) := by rw [cs_4]; rfl
@[simp ↓ high] theorem cse_4 {k : Env → R → Rs β} : cE (fC (.str "")) env h k = k env (.sh true (cS [])) := by rw [cs_4]; rfl
theorem cs_5 : ("places" : Str) = SX.S [112, 108, 97, 99, 101, 115] := by decide +kernel
@[simp ↓ high] theorem csr_5 {k : Env → Bool → PyData → Rs β} : cV (rd (fC (.str "places"))) env h k = k env true (cS [112, 108, 97, 99, 101, 115]) := by rw [cs_5]; rfl
@[simp ↓ high] theorem css_5 {k : Env → Bool → PyData → Rs β} : cV (st (fC (.str "places"))) env h k = k env true (cS [112, 108, 97, 99, 101, 115]) := by rw [cs_5]; rfl
@[simp ↓ high] theorem cse_5 {k : Env → R → Rs β} : cE (fC (.str "places")) env h k = k env (.sh true (cS [112, 108, 97, 99, 101, 115])) := by rw [cs_5]; rfl
theorem cs_6 : ("road" : Str) = SX.S [114, 111, 97, 100] := by decide +kernel
@[simp ↓ high] theorem csr_6 {k : Env → Bool → PyData → Rs β} : cV (rd (fC (.str "road"))) env h k = k env true (cS [114, 111, 97, 100]) := by rw [cs_6]; rfl
@[simp ↓ high] theorem css_6 {k : Env → Bool → PyData → Rs β} : cV (st (fC (.str "road"))) env h k = k env true (cS [114, 111, 97, 100]) := by rw [cs_6]; rfl
@[simp ↓ high] theorem cse_6 {k : Env → R → Rs β} : cE (fC (.str "road")) env h k = k env (.sh true (cS [114, 111, 97, 100])) := by rw [cs_6]; rfl
theorem cs_7 : ("abcdefghijklmnopqrstuvwxyz0123456789" : Str) = SX.S [97, 98, 99, 100, 101, 102, 103, 104, 105, 106, 107, 108, 109, 110, 111, 112, 113, 114, 115, 116, 117, 118, 119, 120, 121, 122, 48, 49, 50, 51, 52, 53, 54, 55, 56, 57] := by decide +kernel
@[simp ↓ high] theorem csr_7 {k : Env → Bool → PyData → Rs β} : cV (rd (fC (.str "abcdefghijklmnopqrstuvwxyz0123456789"))) env h k = k env true (cS [97, 98, 99, 100, 101, 102, 103, 104, 105, 106, 107, 108, 109, 110, 111, 112, 113, 114, 115, 116, 117, 118, 119, 120, 121, 122, 48, 49, 50, 51, 52, 53, 54, 55, 56, 57]) := by rw [cs_7]; rfl
@[simp ↓ high] theorem css_7 {k : Env → Bool → PyData → Rs β} : cV (st (fC (.str "abcdefghijklmnopqrstuvwxyz0123456789"))) env h k = k env true (cS [97, 98, 99, 100, 101, 102, 103, 104, 105, 106, 107, 108, 109, 110, 111, 112, 113, 114, 115, 116, 117, 118, 119, 120, 121, 122, 48, 49, 50, 51, 52, 53, 54, 55, 56, 57]) := by rw [cs_7]; rfl
@[simp ↓ high] theorem cse_7 {k : Env → R → Rs β} : cE (fC (.str "abcdefghijklmnopqrstuvwxyz0123456789")) env h k = k env (.sh true (cS [97, 98, 99, 100, 101, 102, 103, 104, 105, 106, 107, 108, 109, 110, 111, 112, 113, 114, 115, 116, 117, 118, 119, 120, 121, 122, 48, 49, 50, 51, 52, 53, 54, 55, 56, 57])) := by rw [cs_7]; rfl
theorem cs_8 : ("one" : Str) = SX.S [111, 110, 101] := by decide +kernel
@[simp ↓ high] theorem csr_8 {k : Env → Bool → PyData → Rs β} : cV (rd (fC (.str "one"))) env h k = k env true (cS [111, 110, 101]) := by rw [cs_8]; rfl
@[simp ↓ high] theorem css_8 {k : Env → Bool → PyData → Rs β} : cV (st (fC (.str "one"))) env h k = k env true (cS [111, 110, 101]) := by rw [cs_8]; rfl
@[simp ↓ high] theorem cse_8 {k : Env → R → Rs β} : cE (fC (.str "one")) env h k = k env (.sh true (cS [111, 110, 101])) := by rw [cs_8]; rfl
theorem cs_9 : ("all" : Str) = SX.S [97, 108, 108] := by decide +kernel
@[simp ↓ high] theorem csr_9 {k : Env → Bool → PyData → Rs β} : cV (rd (fC (.str "all"))) env h k = k env true (cS [97, 108, 108]) := by rw [cs_9]; rfl
@[simp ↓ high] theorem css_9 {k : Env → Bool → PyData → Rs β} : cV (st (fC (.str "all"))) env h k = k env true (cS [97, 108, 108]) := by rw [cs_9]; rfl
@[simp ↓ high] theorem cse_9 {k : Env → R → Rs β} : cE (fC (.str "all")) env h k = k env (.sh true (cS [97, 108, 108])) := by rw [cs_9]; rfl
theorem cs_10 : ("size" : Str) = SX.S [115, 105, 122, 101] := by decide +kernel
@[simp ↓ high] theorem csr_10 {k : Env → Bool → PyData → Rs β} : cV (rd (fC (.str "size"))) env h k = k env true (cS [115, 105, 122, 101]) := by rw [cs_10]; rfl
@[simp ↓ high] theorem css_10 {k : Env → Bool → PyData → Rs β} : cV (st (fC (.str "size"))) env h k = k env true (cS [115, 105, 122, 101]) := by rw [cs_10]; rfl
@[simp ↓ high] theorem cse_10 {k : Env → R → Rs β} : cE (fC (.str "size")) env h k = k env (.sh true (cS [115, 105, 122, 101])) := by rw [cs_10]; rfl
theorem cs_11 : ("other" : Str) = SX.S [111, 116, 104, 101, 114] := by decide +kernel
@[simp ↓ high] theorem csr_11 {k : Env → Bool → PyData → Rs β} : cV (rd (fC (.str "other"))) env h k = k env true (cS [111, 116, 104, 101, 114]) := by rw [cs_11]; rfl
@[simp ↓ high] theorem css_11 {k : Env → Bool → PyData → Rs β} : cV (st (fC (.str "other"))) env h k = k env true (cS [111, 116, 104, 101, 114]) := by rw [cs_11]; rfl
@[simp ↓ high] theorem cse_11 {k : Env → R → Rs β} : cE (fC (.str "other")) env h k = k env (.sh true (cS [111, 116, 104, 101, 114])) := by rw [cs_11]; rfl
theorem cs_12 : ("good" : Str) = SX.S [103, 111, 111, 100] := by decide +kernel
@[simp ↓ high] theorem csr_12 {k : Env → Bool → PyData → Rs β} : cV (rd (fC (.str "good"))) env h k = k env true (cS [103, 111, 111, 100]) := by rw [cs_12]; rfl
@[simp ↓ high] theorem css_12 {k : Env → Bool → PyData → Rs β} : cV (st (fC (.str "good"))) env h k = k env true (cS [103, 111, 111, 100]) := by rw [cs_12]; rfl
@[simp ↓ high] theorem cse_12 {k : Env → R → Rs β} : cE (fC (.str "good")) env h k = k env (.sh true (cS [103, 111, 111, 100])) := by rw [cs_12]; rfl
theorem cs_13 : ("1" : Str) = SX.S [49] := by decide +kernel
@[simp ↓ high] theorem csr_13 {k : Env → Bool → PyData → Rs β} : cV (rd (fC (.str "1"))) env h k = k env true (cS [49]) := by rw [cs_13]; rfl
@[simp ↓ high] theorem css_13 {k : Env → Bool → PyData → Rs β} : cV (st (fC (.str "1"))) env h k = k env true (cS [49]) := by rw [cs_13]; rfl
@[simp ↓ high] theorem cse_13 {k : Env → R → Rs β} : cE (fC (.str "1")) env h k = k env (.sh true (cS [49])) := by rw [cs_13]; rfl
theorem cs_14 : ("0" : Str) = SX.S [48] := by decide +kernel
@[simp ↓ high] theorem csr_14 {k : Env → Bool → PyData → Rs β} : cV (rd (fC (.str "0"))) env h k = k env true (cS [48]) := by rw [cs_14]; rfl
@[simp ↓ high] theorem css_14 {k : Env → Bool → PyData → Rs β} : cV (st (fC (.str "0"))) env h k = k env true (cS [48]) := by rw [cs_14]; rfl
@[simp ↓ high] theorem cse_14 {k : Env → R → Rs β} : cE (fC (.str "0")) env h k = k env (.sh true (cS [48])) := by rw [cs_14]; rfl
theorem cs_15 : ("Places" : Str) = SX.S [80, 108, 97, 99, 101, 115] := by decide +kernel
@[simp ↓ high] theorem csr_15 {k : Env → Bool → PyData → Rs β} : cV (rd (fC (.str "Places"))) env h k = k env true (cS [80, 108, 97, 99, 101, 115]) := by rw [cs_15]; rfl
@[simp ↓ high] theorem css_15 {k : Env → Bool → PyData → Rs β} : cV (st (fC (.str "Places"))) env h k = k env true (cS [80, 108, 97, 99, 101, 115]) := by rw [cs_15]; rfl
@[simp ↓ high] theorem cse_15 {k : Env → R → Rs β} : cE (fC (.str "Places")) env h k = k env (.sh true (cS [80, 108, 97, 99, 101, 115])) := by rw [cs_15]; rfl
theorem cs_16 : ("roads" : Str) = SX.S [114, 111, 97, 100, 115] := by decide +kernel
@[simp ↓ high] theorem csr_16 {k : Env → Bool → PyData → Rs β} : cV (rd (fC (.str "roads"))) env h k = k env true (cS [114, 111, 97, 100, 115]) := by rw [cs_16]; rfl
@[simp ↓ high] theorem css_16 {k : Env → Bool → PyData → Rs β} : cV (st (fC (.str "roads"))) env h k = k env true (cS [114, 111, 97, 100, 115]) := by rw [cs_16]; rfl
@[simp ↓ high] theorem cse_16 {k : Env → R → Rs β} : cE (fC (.str "roads")) env h k = k env (.sh true (cS [114, 111, 97, 100, 115])) := by rw [cs_16]; rfl
theorem cs_17 : ("x" : Str) = SX.S [120] := by decide +kernel
@[simp ↓ high] theorem csr_17 {k : Env → Bool → PyData → Rs β} : cV (rd (fC (.str "x"))) env h k = k env true (cS [120]) := by rw [cs_17]; rfl
@[simp ↓ high] theorem css_17 {k : Env → Bool → PyData → Rs β} : cV (st (fC (.str "x"))) env h k = k env true (cS [120]) := by rw [cs_17]; rfl
@[simp ↓ high] theorem cse_17 {k : Env → R → Rs β} : cE (fC (.str "x")) env h k = k env (.sh true (cS [120])) := by rw [cs_17]; rfl
theorem cs_18 : ("00" : Str) = SX.S [48, 48] := by decide +kernel
@[simp ↓ high] theorem csr_18 {k : Env → Bool → PyData → Rs β} : cV (rd (fC (.str "00"))) env h k = k env true (cS [48, 48]) := by rw [cs_18]; rfl
@[simp ↓ high] theorem css_18 {k : Env → Bool → PyData → Rs β} : cV (st (fC (.str "00"))) env h k = k env true (cS [48, 48]) := by rw [cs_18]; rfl
@[simp ↓ high] theorem cse_18 {k : Env → R → Rs β} : cE (fC (.str "00")) env h k = k env (.sh true (cS [48, 48])) := by rw [cs_18]; rfl
theorem cs_19 : ("01" : Str) = SX.S [48, 49] := by decide +kernel
@[simp ↓ high] theorem csr_19 {k : Env → Bool → PyData → Rs β} : cV (rd (fC (.str "01"))) env h k = k env true (cS [48, 49]) := by rw [cs_19]; rfl
@[simp ↓ high] theorem css_19 {k : Env → Bool → PyData → Rs β} : cV (st (fC (.str "01"))) env h k = k env true (cS [48, 49]) := by rw [cs_19]; rfl
@[simp ↓ high] theorem cse_19 {k : Env → R → Rs β} : cE (fC (.str "01")) env h k = k env (.sh true (cS [48, 49])) := by rw [cs_19]; rfl
theorem cs_20 : ("1000" : Str) = SX.S [49, 48, 48, 48] := by decide +kernel
@[simp ↓ high] theorem csr_20 {k : Env → Bool → PyData → Rs β} : cV (rd (fC (.str "1000"))) env h k = k env true (cS [49, 48, 48, 48]) := by rw [cs_20]; rfl
@[simp ↓ high] theorem css_20 {k : Env → Bool → PyData → Rs β} : cV (st (fC (.str "1000"))) env h k = k env true (cS [49, 48, 48, 48]) := by rw [cs_20]; rfl
@[simp ↓ high] theorem cse_20 {k : Env → R → Rs β} : cE (fC (.str "1000")) env h k = k env (.sh true (cS [49, 48, 48, 48])) := by rw [cs_20]; rfl
theorem cs_21 : ("+1" : Str) = SX.S [43, 49] := by decide +kernel
@[simp ↓ high] theorem csr_21 {k : Env → Bool → PyData → Rs β} : cV (rd (fC (.str "+1"))) env h k = k env true (cS [43, 49]) := by rw [cs_21]; rfl
@[simp ↓ high] theorem css_21 {k : Env → Bool → PyData → Rs β} : cV (st (fC (.str "+1"))) env h k = k env true (cS [43, 49]) := by rw [cs_21]; rfl
@[simp ↓ high] theorem cse_21 {k : Env → R → Rs β} : cE (fC (.str "+1")) env h k = k env (.sh true (cS [43, 49])) := by rw [cs_21]; rfl
theorem cs_22 : ("a" : Str) = SX.S [97] := by decide +kernel
@[simp ↓ high] theorem csr_22 {k : Env → Bool → PyData → Rs β} : cV (rd (fC (.str "a"))) env h k = k env true (cS [97]) := by rw [cs_22]; rfl
@[simp ↓ high] theorem css_22 {k : Env → Bool → PyData → Rs β} : cV (st (fC (.str "a"))) env h k = k env true (cS [97]) := by rw [cs_22]; rfl
@[simp ↓ high] theorem cse_22 {k : Env → R → Rs β} : cE (fC (.str "a")) env h k = k env (.sh true (cS [97])) := by rw [cs_22]; rfl
theorem cs_23 : ("1." : Str) = SX.S [49, 46] := by decide +kernel
@[simp ↓ high] theorem csr_23 {k : Env → Bool → PyData → Rs β} : cV (rd (fC (.str "1."))) env h k = k env true (cS [49, 46]) := by rw [cs_23]; rfl
@[simp ↓ high] theorem css_23 {k : Env → Bool → PyData → Rs β} : cV (st (fC (.str "1."))) env h k = k env true (cS [49, 46]) := by rw [cs_23]; rfl
@[simp ↓ high] theorem cse_23 {k : Env → R → Rs β} : cE (fC (.str "1.")) env h k = k env (.sh true (cS [49, 46])) := by rw [cs_23]; rfl
theorem cs_24 : ("-1" : Str) = SX.S [45, 49] := by decide +kernel
@[simp ↓ high] theorem csr_24 {k : Env → Bool → PyData → Rs β} : cV (rd (fC (.str "-1"))) env h k = k env true (cS [45, 49]) := by rw [cs_24]; rfl
@[simp ↓ high] theorem css_24 {k : Env → Bool → PyData → Rs β} : cV (st (fC (.str "-1"))) env h k = k env true (cS [45, 49]) := by rw [cs_24]; rfl
@[simp ↓ high] theorem cse_24 {k : Env → R → Rs β} : cE (fC (.str "-1")) env h k = k env (.sh true (cS [45, 49])) := by rw [cs_24]; rfl
theorem cs_25 : ("-" : Str) = SX.S [45] := by decide +kernel
@[simp ↓ high] theorem csr_25 {k : Env → Bool → PyData → Rs β} : cV (rd (fC (.str "-"))) env h k = k env true (cS [45]) := by rw [cs_25]; rfl
@[simp ↓ high] theorem css_25 {k : Env → Bool → PyData → Rs β} : cV (st (fC (.str "-"))) env h k = k env true (cS [45]) := by rw [cs_25]; rfl
@[simp ↓ high] theorem cse_25 {k : Env → R → Rs β} : cE (fC (.str "-")) env h k = k env (.sh true (cS [45])) := by rw [cs_25]; rfl
theorem cs_26 : ("1_0" : Str) = SX.S [49, 95, 48] := by decide +kernel
@[simp ↓ high] theorem csr_26 {k : Env → Bool → PyData → Rs β} : cV (rd (fC (.str "1_0"))) env h k = k env true (cS [49, 95, 48]) := by rw [cs_26]; rfl
@[simp ↓ high] theorem css_26 {k : Env → Bool → PyData → Rs β} : cV (st (fC (.str "1_0"))) env h k = k env true (cS [49, 95, 48]) := by rw [cs_26]; rfl
@[simp ↓ high] theorem cse_26 {k : Env → R → Rs β} : cE (fC (.str "1_0")) env h k = k env (.sh true (cS [49, 95, 48])) := by rw [cs_26]; rfl
theorem cs_27 : ("	7" : Str) = SX.S [9, 55] := by decide +kernel
@[simp ↓ high] theorem csr_27 {k : Env → Bool → PyData → Rs β} : cV (rd (fC (.str "	7"))) env h k = k env true (cS [9, 55]) := by rw [cs_27]; rfl
@[simp ↓ high] theorem css_27 {k : Env → Bool → PyData → Rs β} : cV (st (fC (.str "	7"))) env h k = k env true (cS [9, 55]) := by rw [cs_27]; rfl
@[simp ↓ high] theorem cse_27 {k : Env → R → Rs β} : cE (fC (.str "	7")) env h k = k env (.sh true (cS [9, 55])) := by rw [cs_27]; rfl
theorem cs_28 : ("7" : Str) = SX.S [55] := by decide +kernel
@[simp ↓ high] theorem csr_28 {k : Env → Bool → PyData → Rs β} : cV (rd (fC (.str "7"))) env h k = k env true (cS [55]) := by rw [cs_28]; rfl
@[simp ↓ high] theorem css_28 {k : Env → Bool → PyData → Rs β} : cV (st (fC (.str "7"))) env h k = k env true (cS [55]) := by rw [cs_28]; rfl
@[simp ↓ high] theorem cse_28 {k : Env → R → Rs β} : cE (fC (.str "7")) env h k = k env (.sh true (cS [55])) := by rw [cs_28]; rfl
theorem cs_29 : ("y" : Str) = SX.S [121] := by decide +kernel
@[simp ↓ high] theorem csr_29 {k : Env → Bool → PyData → Rs β} : cV (rd (fC (.str "y"))) env h k = k env true (cS [121]) := by rw [cs_29]; rfl
@[simp ↓ high] theorem css_29 {k : Env → Bool → PyData → Rs β} : cV (st (fC (.str "y"))) env h k = k env true (cS [121]) := by rw [cs_29]; rfl
@[simp ↓ high] theorem cse_29 {k : Env → R → Rs β} : cE (fC (.str "y")) env h k = k env (.sh true (cS [121])) := by rw [cs_29]; rfl
theorem cs_30 : ("A" : Str) = SX.S [65] := by decide +kernel
@[simp ↓ high] theorem csr_30 {k : Env → Bool → PyData → Rs β} : cV (rd (fC (.str "A"))) env h k = k env true (cS [65]) := by rw [cs_30]; rfl
@[simp ↓ high] theorem css_30 {k : Env → Bool → PyData → Rs β} : cV (st (fC (.str "A"))) env h k = k env true (cS [65]) := by rw [cs_30]; rfl
@[simp ↓ high] theorem cse_30 {k : Env → R → Rs β} : cE (fC (.str "A")) env h k = k env (.sh true (cS [65])) := by rw [cs_30]; rfl
theorem cs_31 : ("text" : Str) = SX.S [116, 101, 120, 116] := by decide +kernel
@[simp ↓ high] theorem csr_31 {k : Env → Bool → PyData → Rs β} : cV (rd (fC (.str "text"))) env h k = k env true (cS [116, 101, 120, 116]) := by rw [cs_31]; rfl
@[simp ↓ high] theorem css_31 {k : Env → Bool → PyData → Rs β} : cV (st (fC (.str "text"))) env h k = k env true (cS [116, 101, 120, 116]) := by rw [cs_31]; rfl
@[simp ↓ high] theorem cse_31 {k : Env → R → Rs β} : cE (fC (.str "text")) env h k = k env (.sh true (cS [116, 101, 120, 116])) := by rw [cs_31]; rfl
theorem cs_32 : ("\nroad 0 2 9\nroad 1 2 1\n" : Str) = SX.S [10, 114, 111, 97, 100, 32, 48, 32, 50, 32, 57, 10, 114, 111, 97, 100, 32, 49, 32, 50, 32, 49, 10] := by decide +kernel
@[simp ↓ high] theorem csr_32 {k : Env → Bool → PyData → Rs β} : cV (rd (fC (.str "\nroad 0 2 9\nroad 1 2 1\n"))) env h k = k env true (cS [10, 114, 111, 97, 100, 32, 48, 32, 50, 32, 57, 10, 114, 111, 97, 100, 32, 49, 32, 50, 32, 49, 10]) := by rw [cs_32]; rfl
@[simp ↓ high] theorem css_32 {k : Env → Bool → PyData → Rs β} : cV (st (fC (.str "\nroad 0 2 9\nroad 1 2 1\n"))) env h k = k env true (cS [10, 114, 111, 97, 100, 32, 48, 32, 50, 32, 57, 10, 114, 111, 97, 100, 32, 49, 32, 50, 32, 49, 10]) := by rw [cs_32]; rfl
@[simp ↓ high] theorem cse_32 {k : Env → R → Rs β} : cE (fC (.str "\nroad 0 2 9\nroad 1 2 1\n")) env h k = k env (.sh true (cS [10, 114, 111, 97, 100, 32, 48, 32, 50, 32, 57, 10, 114, 111, 97, 100, 32, 49, 32, 50, 32, 49, 10])) := by rw [cs_32]; rfl
theorem cs_33 : ("road 2 2 1" : Str) = SX.S [114, 111, 97, 100, 32, 50, 32, 50, 32, 49] := by decide +kernel
@[simp ↓ high] theorem csr_33 {k : Env → Bool → PyData → Rs β} : cV (rd (fC (.str "road 2 2 1"))) env h k = k env true (cS [114, 111, 97, 100, 32, 50, 32, 50, 32, 49]) := by rw [cs_33]; rfl
@[simp ↓ high] theorem css_33 {k : Env → Bool → PyData → Rs β} : cV (st (fC (.str "road 2 2 1"))) env h k = k env true (cS [114, 111, 97, 100, 32, 50, 32, 50, 32, 49]) := by rw [cs_33]; rfl
@[simp ↓ high] theorem cse_33 {k : Env → R → Rs β} : cE (fC (.str "road 2 2 1")) env h k = k env (.sh true (cS [114, 111, 97, 100, 32, 50, 32, 50, 32, 49])) := by rw [cs_33]; rfl
theorem cs_34 : ("road 3 2 1" : Str) = SX.S [114, 111, 97, 100, 32, 51, 32, 50, 32, 49] := by decide +kernel
@[simp ↓ high] theorem csr_34 {k : Env → Bool → PyData → Rs β} : cV (rd (fC (.str "road 3 2 1"))) env h k = k env true (cS [114, 111, 97, 100, 32, 51, 32, 50, 32, 49]) := by rw [cs_34]; rfl
@[simp ↓ high] theorem css_34 {k : Env → Bool → PyData → Rs β} : cV (st (fC (.str "road 3 2 1"))) env h k = k env true (cS [114, 111, 97, 100, 32, 51, 32, 50, 32, 49]) := by rw [cs_34]; rfl
@[simp ↓ high] theorem cse_34 {k : Env → R → Rs β} : cE (fC (.str "road 3 2 1")) env h k = k env (.sh true (cS [114, 111, 97, 100, 32, 51, 32, 50, 32, 49])) := by rw [cs_34]; rfl
theorem cs_35 : ("road 1 2 5" : Str) = SX.S [114, 111, 97, 100, 32, 49, 32, 50, 32, 53] := by decide +kernel
@[simp ↓ high] theorem csr_35 {k : Env → Bool → PyData → Rs β} : cV (rd (fC (.str "road 1 2 5"))) env h k = k env true (cS [114, 111, 97, 100, 32, 49, 32, 50, 32, 53]) := by rw [cs_35]; rfl
@[simp ↓ high] theorem css_35 {k : Env → Bool → PyData → Rs β} : cV (st (fC (.str "road 1 2 5"))) env h k = k env true (cS [114, 111, 97, 100, 32, 49, 32, 50, 32, 53]) := by rw [cs_35]; rfl
@[simp ↓ high] theorem cse_35 {k : Env → R → Rs β} : cE (fC (.str "road 1 2 5")) env h k = k env (.sh true (cS [114, 111, 97, 100, 32, 49, 32, 50, 32, 53])) := by rw [cs_35]; rfl
theorem cs_36 : ("road 0 6 5" : Str) = SX.S [114, 111, 97, 100, 32, 48, 32, 54, 32, 53] := by decide +kernel
@[simp ↓ high] theorem csr_36 {k : Env → Bool → PyData → Rs β} : cV (rd (fC (.str "road 0 6 5"))) env h k = k env true (cS [114, 111, 97, 100, 32, 48, 32, 54, 32, 53]) := by rw [cs_36]; rfl
@[simp ↓ high] theorem css_36 {k : Env → Bool → PyData → Rs β} : cV (st (fC (.str "road 0 6 5"))) env h k = k env true (cS [114, 111, 97, 100, 32, 48, 32, 54, 32, 53]) := by rw [cs_36]; rfl
@[simp ↓ high] theorem cse_36 {k : Env → R → Rs β} : cE (fC (.str "road 0 6 5")) env h k = k env (.sh true (cS [114, 111, 97, 100, 32, 48, 32, 54, 32, 53])) := by rw [cs_36]; rfl
theorem cs_37 : ("road 2 7 1" : Str) = SX.S [114, 111, 97, 100, 32, 50, 32, 55, 32, 49] := by decide +kernel
@[simp ↓ high] theorem csr_37 {k : Env → Bool → PyData → Rs β} : cV (rd (fC (.str "road 2 7 1"))) env h k = k env true (cS [114, 111, 97, 100, 32, 50, 32, 55, 32, 49]) := by rw [cs_37]; rfl
@[simp ↓ high] theorem css_37 {k : Env → Bool → PyData → Rs β} : cV (st (fC (.str "road 2 7 1"))) env h k = k env true (cS [114, 111, 97, 100, 32, 50, 32, 55, 32, 49]) := by rw [cs_37]; rfl
@[simp ↓ high] theorem cse_37 {k : Env → R → Rs β} : cE (fC (.str "road 2 7 1")) env h k = k env (.sh true (cS [114, 111, 97, 100, 32, 50, 32, 55, 32, 49])) := by rw [cs_37]; rfl
theorem cs_38 : ("road 2 3 0" : Str) = SX.S [114, 111, 97, 100, 32, 50, 32, 51, 32, 48] := by decide +kernel
@[simp ↓ high] theorem csr_38 {k : Env → Bool → PyData → Rs β} : cV (rd (fC (.str "road 2 3 0"))) env h k = k env true (cS [114, 111, 97, 100, 32, 50, 32, 51, 32, 48]) := by rw [cs_38]; rfl
@[simp ↓ high] theorem css_38 {k : Env → Bool → PyData → Rs β} : cV (st (fC (.str "road 2 3 0"))) env h k = k env true (cS [114, 111, 97, 100, 32, 50, 32, 51, 32, 48]) := by rw [cs_38]; rfl
@[simp ↓ high] theorem cse_38 {k : Env → R → Rs β} : cE (fC (.str "road 2 3 0")) env h k = k env (.sh true (cS [114, 111, 97, 100, 32, 50, 32, 51, 32, 48])) := by rw [cs_38]; rfl
theorem cs_39 : ("road 2 3 10" : Str) = SX.S [114, 111, 97, 100, 32, 50, 32, 51, 32, 49, 48] := by decide +kernel
@[simp ↓ high] theorem csr_39 {k : Env → Bool → PyData → Rs β} : cV (rd (fC (.str "road 2 3 10"))) env h k = k env true (cS [114, 111, 97, 100, 32, 50, 32, 51, 32, 49, 48]) := by rw [cs_39]; rfl
@[simp ↓ high] theorem css_39 {k : Env → Bool → PyData → Rs β} : cV (st (fC (.str "road 2 3 10"))) env h k = k env true (cS [114, 111, 97, 100, 32, 50, 32, 51, 32, 49, 48]) := by rw [cs_39]; rfl
@[simp ↓ high] theorem cse_39 {k : Env → R → Rs β} : cE (fC (.str "road 2 3 10")) env h k = k env (.sh true (cS [114, 111, 97, 100, 32, 50, 32, 51, 32, 49, 48])) := by rw [cs_39]; rfl
theorem cs_40 : ("road 0 1 " : Str) = SX.S [114, 111, 97, 100, 32, 48, 32, 49, 32] := by decide +kernel
@[simp ↓ high] theorem csr_40 {k : Env → Bool → PyData → Rs β} : cV (rd (fC (.str "road 0 1 "))) env h k = k env true (cS [114, 111, 97, 100, 32, 48, 32, 49, 32]) := by rw [cs_40]; rfl
@[simp ↓ high] theorem css_40 {k : Env → Bool → PyData → Rs β} : cV (st (fC (.str "road 0 1 "))) env h k = k env true (cS [114, 111, 97, 100, 32, 48, 32, 49, 32]) := by rw [cs_40]; rfl
@[simp ↓ high] theorem cse_40 {k : Env → R → Rs β} : cE (fC (.str "road 0 1 ")) env h k = k env (.sh true (cS [114, 111, 97, 100, 32, 48, 32, 49, 32])) := by rw [cs_40]; rfl
theorem cs_41 : ("places 1\n" : Str) = SX.S [112, 108, 97, 99, 101, 115, 32, 49, 10] := by decide +kernel
@[simp ↓ high] theorem csr_41 {k : Env → Bool → PyData → Rs β} : cV (rd (fC (.str "places 1\n"))) env h k = k env true (cS [112, 108, 97, 99, 101, 115, 32, 49, 10]) := by rw [cs_41]; rfl
@[simp ↓ high] theorem css_41 {k : Env → Bool → PyData → Rs β} : cV (st (fC (.str "places 1\n"))) env h k = k env true (cS [112, 108, 97, 99, 101, 115, 32, 49, 10]) := by rw [cs_41]; rfl
@[simp ↓ high] theorem cse_41 {k : Env → R → Rs β} : cE (fC (.str "places 1\n")) env h k = k env (.sh true (cS [112, 108, 97, 99, 101, 115, 32, 49, 10])) := by rw [cs_41]; rfl
theorem cs_42 : ("places 7\n" : Str) = SX.S [112, 108, 97, 99, 101, 115, 32, 55, 10] := by decide +kernel
@[simp ↓ high] theorem csr_42 {k : Env → Bool → PyData → Rs β} : cV (rd (fC (.str "places 7\n"))) env h k = k env true (cS [112, 108, 97, 99, 101, 115, 32, 55, 10]) := by rw [cs_42]; rfl
@[simp ↓ high] theorem css_42 {k : Env → Bool → PyData → Rs β} : cV (st (fC (.str "places 7\n"))) env h k = k env true (cS [112, 108, 97, 99, 101, 115, 32, 55, 10]) := by rw [cs_42]; rfl
@[simp ↓ high] theorem cse_42 {k : Env → R → Rs β} : cE (fC (.str "places 7\n")) env h k = k env (.sh true (cS [112, 108, 97, 99, 101, 115, 32, 55, 10])) := by rw [cs_42]; rfl
theorem cs_43 : ("places 0\n" : Str) = SX.S [112, 108, 97, 99, 101, 115, 32, 48, 10] := by decide +kernel
@[simp ↓ high] theorem csr_43 {k : Env → Bool → PyData → Rs β} : cV (rd (fC (.str "places 0\n"))) env h k = k env true (cS [112, 108, 97, 99, 101, 115, 32, 48, 10]) := by rw [cs_43]; rfl
@[simp ↓ high] theorem css_43 {k : Env → Bool → PyData → Rs β} : cV (st (fC (.str "places 0\n"))) env h k = k env true (cS [112, 108, 97, 99, 101, 115, 32, 48, 10]) := by rw [cs_43]; rfl
@[simp ↓ high] theorem cse_43 {k : Env → R → Rs β} : cE (fC (.str "places 0\n")) env h k = k env (.sh true (cS [112, 108, 97, 99, 101, 115, 32, 48, 10])) := by rw [cs_43]; rfl
theorem cs_44 : ("places 8\n" : Str) = SX.S [112, 108, 97, 99, 101, 115, 32, 56, 10] := by decide +kernel
@[simp ↓ high] theorem csr_44 {k : Env → Bool → PyData → Rs β} : cV (rd (fC (.str "places 8\n"))) env h k = k env true (cS [112, 108, 97, 99, 101, 115, 32, 56, 10]) := by rw [cs_44]; rfl
@[simp ↓ high] theorem css_44 {k : Env → Bool → PyData → Rs β} : cV (st (fC (.str "places 8\n"))) env h k = k env true (cS [112, 108, 97, 99, 101, 115, 32, 56, 10]) := by rw [cs_44]; rfl
@[simp ↓ high] theorem cse_44 {k : Env → R → Rs β} : cE (fC (.str "places 8\n")) env h k = k env (.sh true (cS [112, 108, 97, 99, 101, 115, 32, 56, 10])) := by rw [cs_44]; rfl
theorem cs_45 : ("road 2 3 " : Str) = SX.S [114, 111, 97, 100, 32, 50, 32, 51, 32] := by decide +kernel
@[simp ↓ high] theorem csr_45 {k : Env → Bool → PyData → Rs β} : cV (rd (fC (.str "road 2 3 "))) env h k = k env true (cS [114, 111, 97, 100, 32, 50, 32, 51, 32]) := by rw [cs_45]; rfl
@[simp ↓ high] theorem css_45 {k : Env → Bool → PyData → Rs β} : cV (st (fC (.str "road 2 3 "))) env h k = k env true (cS [114, 111, 97, 100, 32, 50, 32, 51, 32]) := by rw [cs_45]; rfl
@[simp ↓ high] theorem cse_45 {k : Env → R → Rs β} : cE (fC (.str "road 2 3 ")) env h k = k env (.sh true (cS [114, 111, 97, 100, 32, 50, 32, 51, 32])) := by rw [cs_45]; rfl
theorem cs_46 : ("places 8\nroad 9 9 9\n" : Str) = SX.S [112, 108, 97, 99, 101, 115, 32, 56, 10, 114, 111, 97, 100, 32, 57, 32, 57, 32, 57, 10] := by decide +kernel
@[simp ↓ high] theorem csr_46 {k : Env → Bool → PyData → Rs β} : cV (rd (fC (.str "places 8\nroad 9 9 9\n"))) env h k = k env true (cS [112, 108, 97, 99, 101, 115, 32, 56, 10, 114, 111, 97, 100, 32, 57, 32, 57, 32, 57, 10]) := by rw [cs_46]; rfl
@[simp ↓ high] theorem css_46 {k : Env → Bool → PyData → Rs β} : cV (st (fC (.str "places 8\nroad 9 9 9\n"))) env h k = k env true (cS [112, 108, 97, 99, 101, 115, 32, 56, 10, 114, 111, 97, 100, 32, 57, 32, 57, 32, 57, 10]) := by rw [cs_46]; rfl
@[simp ↓ high] theorem cse_46 {k : Env → R → Rs β} : cE (fC (.str "places 8\nroad 9 9 9\n")) env h k = k env (.sh true (cS [112, 108, 97, 99, 101, 115, 32, 56, 10, 114, 111, 97, 100, 32, 57, 32, 57, 32, 57, 10])) := by rw [cs_46]; rfl
theorem cs_47 : ("places 8\nroad 0 1\n" : Str) = SX.S [112, 108, 97, 99, 101, 115, 32, 56, 10, 114, 111, 97, 100, 32, 48, 32, 49, 10] := by decide +kernel
@[simp ↓ high] theorem csr_47 {k : Env → Bool → PyData → Rs β} : cV (rd (fC (.str "places 8\nroad 0 1\n"))) env h k = k env true (cS [112, 108, 97, 99, 101, 115, 32, 56, 10, 114, 111, 97, 100, 32, 48, 32, 49, 10]) := by rw [cs_47]; rfl
@[simp ↓ high] theorem css_47 {k : Env → Bool → PyData → Rs β} : cV (st (fC (.str "places 8\nroad 0 1\n"))) env h k = k env true (cS [112, 108, 97, 99, 101, 115, 32, 56, 10, 114, 111, 97, 100, 32, 48, 32, 49, 10]) := by rw [cs_47]; rfl
@[simp ↓ high] theorem cse_47 {k : Env → R → Rs β} : cE (fC (.str "places 8\nroad 0 1\n")) env h k = k env (.sh true (cS [112, 108, 97, 99, 101, 115, 32, 56, 10, 114, 111, 97, 100, 32, 48, 32, 49, 10])) := by rw [cs_47]; rfl
theorem cs_48 : ("places 2\nroad 0 1 10\nx\n" : Str) = SX.S [112, 108, 97, 99, 101, 115, 32, 50, 10, 114, 111, 97, 100, 32, 48, 32, 49, 32, 49, 48, 10, 120, 10] := by decide +kernel
@[simp ↓ high] theorem csr_48 {k : Env → Bool → PyData → Rs β} : cV (rd (fC (.str "places 2\nroad 0 1 10\nx\n"))) env h k = k env true (cS [112, 108, 97, 99, 101, 115, 32, 50, 10, 114, 111, 97, 100, 32, 48, 32, 49, 32, 49, 48, 10, 120, 10]) := by rw [cs_48]; rfl
@[simp ↓ high] theorem css_48 {k : Env → Bool → PyData → Rs β} : cV (st (fC (.str "places 2\nroad 0 1 10\nx\n"))) env h k = k env true (cS [112, 108, 97, 99, 101, 115, 32, 50, 10, 114, 111, 97, 100, 32, 48, 32, 49, 32, 49, 48, 10, 120, 10]) := by rw [cs_48]; rfl
@[simp ↓ high] theorem cse_48 {k : Env → R → Rs β} : cE (fC (.str "places 2\nroad 0 1 10\nx\n")) env h k = k env (.sh true (cS [112, 108, 97, 99, 101, 115, 32, 50, 10, 114, 111, 97, 100, 32, 48, 32, 49, 32, 49, 48, 10, 120, 10])) := by rw [cs_48]; rfl
theorem cs_49 : ("places 7\nroad 1 2 1\nroad 0 1 1\n" : Str) = SX.S [112, 108, 97, 99, 101, 115, 32, 55, 10, 114, 111, 97, 100, 32, 49, 32, 50, 32, 49, 10, 114, 111, 97, 100, 32, 48, 32, 49, 32, 49, 10] := by decide +kernel
@[simp ↓ high] theorem csr_49 {k : Env → Bool → PyData → Rs β} : cV (rd (fC (.str "places 7\nroad 1 2 1\nroad 0 1 1\n"))) env h k = k env true (cS [112, 108, 97, 99, 101, 115, 32, 55, 10, 114, 111, 97, 100, 32, 49, 32, 50, 32, 49, 10, 114, 111, 97, 100, 32, 48, 32, 49, 32, 49, 10]) := by rw [cs_49]; rfl
@[simp ↓ high] theorem css_49 {k : Env → Bool → PyData → Rs β} : cV (st (fC (.str "places 7\nroad 1 2 1\nroad 0 1 1\n"))) env h k = k env true (cS [112, 108, 97, 99, 101, 115, 32, 55, 10, 114, 111, 97, 100, 32, 49, 32, 50, 32, 49, 10, 114, 111, 97, 100, 32, 48, 32, 49, 32, 49, 10]) := by rw [cs_49]; rfl
@[simp ↓ high] theorem cse_49 {k : Env → R → Rs β} : cE (fC (.str "places 7\nroad 1 2 1\nroad 0 1 1\n")) env h k = k env (.sh true (cS [112, 108, 97, 99, 101, 115, 32, 55, 10, 114, 111, 97, 100, 32, 49, 32, 50, 32, 49, 10, 114, 111, 97, 100, 32, 48, 32, 49, 32, 49, 10])) := by rw [cs_49]; rfl
theorem cs_50 : ("places 7\nroad 0 1 1\nroad 0 1 2\n" : Str) = SX.S [112, 108, 97, 99, 101, 115, 32, 55, 10, 114, 111, 97, 100, 32, 48, 32, 49, 32, 49, 10, 114, 111, 97, 100, 32, 48, 32, 49, 32, 50, 10] := by decide +kernel
@[simp ↓ high] theorem csr_50 {k : Env → Bool → PyData → Rs β} : cV (rd (fC (.str "places 7\nroad 0 1 1\nroad 0 1 2\n"))) env h k = k env true (cS [112, 108, 97, 99, 101, 115, 32, 55, 10, 114, 111, 97, 100, 32, 48, 32, 49, 32, 49, 10, 114, 111, 97, 100, 32, 48, 32, 49, 32, 50, 10]) := by rw [cs_50]; rfl
@[simp ↓ high] theorem css_50 {k : Env → Bool → PyData → Rs β} : cV (st (fC (.str "places 7\nroad 0 1 1\nroad 0 1 2\n"))) env h k = k env true (cS [112, 108, 97, 99, 101, 115, 32, 55, 10, 114, 111, 97, 100, 32, 48, 32, 49, 32, 49, 10, 114, 111, 97, 100, 32, 48, 32, 49, 32, 50, 10]) := by rw [cs_50]; rfl
@[simp ↓ high] theorem cse_50 {k : Env → R → Rs β} : cE (fC (.str "places 7\nroad 0 1 1\nroad 0 1 2\n")) env h k = k env (.sh true (cS [112, 108, 97, 99, 101, 115, 32, 55, 10, 114, 111, 97, 100, 32, 48, 32, 49, 32, 49, 10, 114, 111, 97, 100, 32, 48, 32, 49, 32, 50, 10])) := by rw [cs_50]; rfl
theorem cs_51 : ("places 7\nroad 6 7 1\n" : Str) = SX.S [112, 108, 97, 99, 101, 115, 32, 55, 10, 114, 111, 97, 100, 32, 54, 32, 55, 32, 49, 10] := by decide +kernel
@[simp ↓ high] theorem csr_51 {k : Env → Bool → PyData → Rs β} : cV (rd (fC (.str "places 7\nroad 6 7 1\n"))) env h k = k env true (cS [112, 108, 97, 99, 101, 115, 32, 55, 10, 114, 111, 97, 100, 32, 54, 32, 55, 32, 49, 10]) := by rw [cs_51]; rfl
@[simp ↓ high] theorem css_51 {k : Env → Bool → PyData → Rs β} : cV (st (fC (.str "places 7\nroad 6 7 1\n"))) env h k = k env true (cS [112, 108, 97, 99, 101, 115, 32, 55, 10, 114, 111, 97, 100, 32, 54, 32, 55, 32, 49, 10]) := by rw [cs_51]; rfl
@[simp ↓ high] theorem cse_51 {k : Env → R → Rs β} : cE (fC (.str "places 7\nroad 6 7 1\n")) env h k = k env (.sh true (cS [112, 108, 97, 99, 101, 115, 32, 55, 10, 114, 111, 97, 100, 32, 54, 32, 55, 32, 49, 10])) := by rw [cs_51]; rfl
theorem cs_52 : ("places 3\n" : Str) = SX.S [112, 108, 97, 99, 101, 115, 32, 51, 10] := by decide +kernel
@[simp ↓ high] theorem csr_52 {k : Env → Bool → PyData → Rs β} : cV (rd (fC (.str "places 3\n"))) env h k = k env true (cS [112, 108, 97, 99, 101, 115, 32, 51, 10]) := by rw [cs_52]; rfl
@[simp ↓ high] theorem css_52 {k : Env → Bool → PyData → Rs β} : cV (st (fC (.str "places 3\n"))) env h k = k env true (cS [112, 108, 97, 99, 101, 115, 32, 51, 10]) := by rw [cs_52]; rfl
@[simp ↓ high] theorem cse_52 {k : Env → R → Rs β} : cE (fC (.str "places 3\n")) env h k = k env (.sh true (cS [112, 108, 97, 99, 101, 115, 32, 51, 10])) := by rw [cs_52]; rfl
theorem cs_53 : ("places 2\n" : Str) = SX.S [112, 108, 97, 99, 101, 115, 32, 50, 10] := by decide +kernel
@[simp ↓ high] theorem csr_53 {k : Env → Bool → PyData → Rs β} : cV (rd (fC (.str "places 2\n"))) env h k = k env true (cS [112, 108, 97, 99, 101, 115, 32, 50, 10]) := by rw [cs_53]; rfl
@[simp ↓ high] theorem css_53 {k : Env → Bool → PyData → Rs β} : cV (st (fC (.str "places 2\n"))) env h k = k env true (cS [112, 108, 97, 99, 101, 115, 32, 50, 10]) := by rw [cs_53]; rfl
@[simp ↓ high] theorem cse_53 {k : Env → R → Rs β} : cE (fC (.str "places 2\n")) env h k = k env (.sh true (cS [112, 108, 97, 99, 101, 115, 32, 50, 10])) := by rw [cs_53]; rfl
theorem cs_54 : ("road 5 6 9\n" : Str) = SX.S [114, 111, 97, 100, 32, 53, 32, 54, 32, 57, 10] := by decide +kernel
@[simp ↓ high] theorem csr_54 {k : Env → Bool → PyData → Rs β} : cV (rd (fC (.str "road 5 6 9\n"))) env h k = k env true (cS [114, 111, 97, 100, 32, 53, 32, 54, 32, 57, 10]) := by rw [cs_54]; rfl
@[simp ↓ high] theorem css_54 {k : Env → Bool → PyData → Rs β} : cV (st (fC (.str "road 5 6 9\n"))) env h k = k env true (cS [114, 111, 97, 100, 32, 53, 32, 54, 32, 57, 10]) := by rw [cs_54]; rfl
@[simp ↓ high] theorem cse_54 {k : Env → R → Rs β} : cE (fC (.str "road 5 6 9\n")) env h k = k env (.sh true (cS [114, 111, 97, 100, 32, 53, 32, 54, 32, 57, 10])) := by rw [cs_54]; rfl
theorem cs_55 : ("\nroad 9 9 9\n" : Str) = SX.S [10, 114, 111, 97, 100, 32, 57, 32, 57, 32, 57, 10] := by decide +kernel
@[simp ↓ high] theorem csr_55 {k : Env → Bool → PyData → Rs β} : cV (rd (fC (.str "\nroad 9 9 9\n"))) env h k = k env true (cS [10, 114, 111, 97, 100, 32, 57, 32, 57, 32, 57, 10]) := by rw [cs_55]; rfl
@[simp ↓ high] theorem css_55 {k : Env → Bool → PyData → Rs β} : cV (st (fC (.str "\nroad 9 9 9\n"))) env h k = k env true (cS [10, 114, 111, 97, 100, 32, 57, 32, 57, 32, 57, 10]) := by rw [cs_55]; rfl
@[simp ↓ high] theorem cse_55 {k : Env → R → Rs β} : cE (fC (.str "\nroad 9 9 9\n")) env h k = k env (.sh true (cS [10, 114, 111, 97, 100, 32, 57, 32, 57, 32, 57, 10])) := by rw [cs_55]; rfl
theorem cs_56 : ("calls" : Str) = SX.S [99, 97, 108, 108, 115] := by decide +kernel
@[simp ↓ high] theorem csr_56 {k : Env → Bool → PyData → Rs β} : cV (rd (fC (.str "calls"))) env h k = k env true (cS [99, 97, 108, 108, 115]) := by rw [cs_56]; rfl
@[simp ↓ high] theorem css_56 {k : Env → Bool → PyData → Rs β} : cV (st (fC (.str "calls"))) env h k = k env true (cS [99, 97, 108, 108, 115]) := by rw [cs_56]; rfl
@[simp ↓ high] theorem cse_56 {k : Env → R → Rs β} : cE (fC (.str "calls")) env h k = k env (.sh true (cS [99, 97, 108, 108, 115])) := by rw [cs_56]; rfl
theorem cs_57 : ("way " : Str) = SX.S [119, 97, 121, 32] := by decide +kernel
@[simp ↓ high] theorem csr_57 {k : Env → Bool → PyData → Rs β} : cV (rd (fC (.str "way "))) env h k = k env true (cS [119, 97, 121, 32]) := by rw [cs_57]; rfl
@[simp ↓ high] theorem css_57 {k : Env → Bool → PyData → Rs β} : cV (st (fC (.str "way "))) env h k = k env true (cS [119, 97, 121, 32]) := by rw [cs_57]; rfl
@[simp ↓ high] theorem cse_57 {k : Env → R → Rs β} : cE (fC (.str "way ")) env h k = k env (.sh true (cS [119, 97, 121, 32])) := by rw [cs_57]; rfl
theorem cs_58 : ("call " : Str) = SX.S [99, 97, 108, 108, 32] := by decide +kernel
@[simp ↓ high] theorem csr_58 {k : Env → Bool → PyData → Rs β} : cV (rd (fC (.str "call "))) env h k = k env true (cS [99, 97, 108, 108, 32]) := by rw [cs_58]; rfl
@[simp ↓ high] theorem css_58 {k : Env → Bool → PyData → Rs β} : cV (st (fC (.str "call "))) env h k = k env true (cS [99, 97, 108, 108, 32]) := by rw [cs_58]; rfl
@[simp ↓ high] theorem cse_58 {k : Env → R → Rs β} : cE (fC (.str "call ")) env h k = k env (.sh true (cS [99, 97, 108, 108, 32])) := by rw [cs_58]; rfl
theorem cs_59 : (" from " : Str) = SX.S [32, 102, 114, 111, 109, 32] := by decide +kernel
@[simp ↓ high] theorem csr_59 {k : Env → Bool → PyData → Rs β} : cV (rd (fC (.str " from "))) env h k = k env true (cS [32, 102, 114, 111, 109, 32]) := by rw [cs_59]; rfl
@[simp ↓ high] theorem css_59 {k : Env → Bool → PyData → Rs β} : cV (st (fC (.str " from "))) env h k = k env true (cS [32, 102, 114, 111, 109, 32]) := by rw [cs_59]; rfl
@[simp ↓ high] theorem cse_59 {k : Env → R → Rs β} : cE (fC (.str " from ")) env h k = k env (.sh true (cS [32, 102, 114, 111, 109, 32])) := by rw [cs_59]; rfl
theorem cs_60 : (" to " : Str) = SX.S [32, 116, 111, 32] := by decide +kernel
@[simp ↓ high] theorem csr_60 {k : Env → Bool → PyData → Rs β} : cV (rd (fC (.str " to "))) env h k = k env true (cS [32, 116, 111, 32]) := by rw [cs_60]; rfl
@[simp ↓ high] theorem css_60 {k : Env → Bool → PyData → Rs β} : cV (st (fC (.str " to "))) env h k = k env true (cS [32, 116, 111, 32]) := by rw [cs_60]; rfl
@[simp ↓ high] theorem cse_60 {k : Env → R → Rs β} : cE (fC (.str " to ")) env h k = k env (.sh true (cS [32, 116, 111, 32])) := by rw [cs_60]; rfl
theorem cs_61 : (" way " : Str) = SX.S [32, 119, 97, 121, 32] := by decide +kernel
@[simp ↓ high] theorem csr_61 {k : Env → Bool → PyData → Rs β} : cV (rd (fC (.str " way "))) env h k = k env true (cS [32, 119, 97, 121, 32]) := by rw [cs_61]; rfl
@[simp ↓ high] theorem css_61 {k : Env → Bool → PyData → Rs β} : cV (st (fC (.str " way "))) env h k = k env true (cS [32, 119, 97, 121, 32]) := by rw [cs_61]; rfl
@[simp ↓ high] theorem cse_61 {k : Env → R → Rs β} : cE (fC (.str " way ")) env h k = k env (.sh true (cS [32, 119, 97, 121, 32])) := by rw [cs_61]; rfl
theorem cs_62 : ("call" : Str) = SX.S [99, 97, 108, 108] := by decide +kernel
@[simp ↓ high] theorem csr_62 {k : Env → Bool → PyData → Rs β} : cV (rd (fC (.str "call"))) env h k = k env true (cS [99, 97, 108, 108]) := by rw [cs_62]; rfl
@[simp ↓ high] theorem css_62 {k : Env → Bool → PyData → Rs β} : cV (st (fC (.str "call"))) env h k = k env true (cS [99, 97, 108, 108]) := by rw [cs_62]; rfl
@[simp ↓ high] theorem cse_62 {k : Env → R → Rs β} : cE (fC (.str "call")) env h k = k env (.sh true (cS [99, 97, 108, 108])) := by rw [cs_62]; rfl
theorem cs_63 : ("+2" : Str) = SX.S [43, 50] := by decide +kernel
@[simp ↓ high] theorem csr_63 {k : Env → Bool → PyData → Rs β} : cV (rd (fC (.str "+2"))) env h k = k env true (cS [43, 50]) := by rw [cs_63]; rfl
@[simp ↓ high] theorem css_63 {k : Env → Bool → PyData → Rs β} : cV (st (fC (.str "+2"))) env h k = k env true (cS [43, 50]) := by rw [cs_63]; rfl
@[simp ↓ high] theorem cse_63 {k : Env → R → Rs β} : cE (fC (.str "+2")) env h k = k env (.sh true (cS [43, 50])) := by rw [cs_63]; rfl
theorem cs_64 : ("calls\n" : Str) = SX.S [99, 97, 108, 108, 115, 10] := by decide +kernel
@[simp ↓ high] theorem csr_64 {k : Env → Bool → PyData → Rs β} : cV (rd (fC (.str "calls\n"))) env h k = k env true (cS [99, 97, 108, 108, 115, 10]) := by rw [cs_64]; rfl
@[simp ↓ high] theorem css_64 {k : Env → Bool → PyData → Rs β} : cV (st (fC (.str "calls\n"))) env h k = k env true (cS [99, 97, 108, 108, 115, 10]) := by rw [cs_64]; rfl
@[simp ↓ high] theorem cse_64 {k : Env → R → Rs β} : cE (fC (.str "calls\n")) env h k = k env (.sh true (cS [99, 97, 108, 108, 115, 10])) := by rw [cs_64]; rfl
theorem cs_65 : ("calls 0" : Str) = SX.S [99, 97, 108, 108, 115, 32, 48] := by decide +kernel
@[simp ↓ high] theorem csr_65 {k : Env → Bool → PyData → Rs β} : cV (rd (fC (.str "calls 0"))) env h k = k env true (cS [99, 97, 108, 108, 115, 32, 48]) := by rw [cs_65]; rfl
@[simp ↓ high] theorem css_65 {k : Env → Bool → PyData → Rs β} : cV (st (fC (.str "calls 0"))) env h k = k env true (cS [99, 97, 108, 108, 115, 32, 48]) := by rw [cs_65]; rfl
@[simp ↓ high] theorem cse_65 {k : Env → R → Rs β} : cE (fC (.str "calls 0")) env h k = k env (.sh true (cS [99, 97, 108, 108, 115, 32, 48])) := by rw [cs_65]; rfl
theorem cs_66 : ("Calls" : Str) = SX.S [67, 97, 108, 108, 115] := by decide +kernel
@[simp ↓ high] theorem csr_66 {k : Env → Bool → PyData → Rs β} : cV (rd (fC (.str "Calls"))) env h k = k env true (cS [67, 97, 108, 108, 115]) := by rw [cs_66]; rfl
@[simp ↓ high] theorem css_66 {k : Env → Bool → PyData → Rs β} : cV (st (fC (.str "Calls"))) env h k = k env true (cS [67, 97, 108, 108, 115]) := by rw [cs_66]; rfl
@[simp ↓ high] theorem cse_66 {k : Env → R → Rs β} : cE (fC (.str "Calls")) env h k = k env (.sh true (cS [67, 97, 108, 108, 115])) := by rw [cs_66]; rfl
theorem cs_67 : ("way" : Str) = SX.S [119, 97, 121] := by decide +kernel
@[simp ↓ high] theorem csr_67 {k : Env → Bool → PyData → Rs β} : cV (rd (fC (.str "way"))) env h k = k env true (cS [119, 97, 121]) := by rw [cs_67]; rfl
@[simp ↓ high] theorem css_67 {k : Env → Bool → PyData → Rs β} : cV (st (fC (.str "way"))) env h k = k env true (cS [119, 97, 121]) := by rw [cs_67]; rfl
@[simp ↓ high] theorem cse_67 {k : Env → R → Rs β} : cE (fC (.str "way")) env h k = k env (.sh true (cS [119, 97, 121])) := by rw [cs_67]; rfl
theorem cs_68 : ("to" : Str) = SX.S [116, 111] := by decide +kernel
@[simp ↓ high] theorem csr_68 {k : Env → Bool → PyData → Rs β} : cV (rd (fC (.str "to"))) env h k = k env true (cS [116, 111]) := by rw [cs_68]; rfl
@[simp ↓ high] theorem css_68 {k : Env → Bool → PyData → Rs β} : cV (st (fC (.str "to"))) env h k = k env true (cS [116, 111]) := by rw [cs_68]; rfl
@[simp ↓ high] theorem cse_68 {k : Env → R → Rs β} : cE (fC (.str "to")) env h k = k env (.sh true (cS [116, 111])) := by rw [cs_68]; rfl
theorem cs_69 : ("from" : Str) = SX.S [102, 114, 111, 109] := by decide +kernel
@[simp ↓ high] theorem csr_69 {k : Env → Bool → PyData → Rs β} : cV (rd (fC (.str "from"))) env h k = k env true (cS [102, 114, 111, 109]) := by rw [cs_69]; rfl
@[simp ↓ high] theorem css_69 {k : Env → Bool → PyData → Rs β} : cV (st (fC (.str "from"))) env h k = k env true (cS [102, 114, 111, 109]) := by rw [cs_69]; rfl
@[simp ↓ high] theorem cse_69 {k : Env → R → Rs β} : cE (fC (.str "from")) env h k = k env (.sh true (cS [102, 114, 111, 109])) := by rw [cs_69]; rfl
theorem cs_70 : ("none" : Str) = SX.S [110, 111, 110, 101] := by decide +kernel
@[simp ↓ high] theorem csr_70 {k : Env → Bool → PyData → Rs β} : cV (rd (fC (.str "none"))) env h k = k env true (cS [110, 111, 110, 101]) := by rw [cs_70]; rfl
@[simp ↓ high] theorem css_70 {k : Env → Bool → PyData → Rs β} : cV (st (fC (.str "none"))) env h k = k env true (cS [110, 111, 110, 101]) := by rw [cs_70]; rfl
@[simp ↓ high] theorem cse_70 {k : Env → R → Rs β} : cE (fC (.str "none")) env h k = k env (.sh true (cS [110, 111, 110, 101])) := by rw [cs_70]; rfl
theorem cs_71 : ("told" : Str) = SX.S [116, 111, 108, 100] := by decide +kernel
@[simp ↓ high] theorem csr_71 {k : Env → Bool → PyData → Rs β} : cV (rd (fC (.str "told"))) env h k = k env true (cS [116, 111, 108, 100]) := by rw [cs_71]; rfl
@[simp ↓ high] theorem css_71 {k : Env → Bool → PyData → Rs β} : cV (st (fC (.str "told"))) env h k = k env true (cS [116, 111, 108, 100]) := by rw [cs_71]; rfl
@[simp ↓ high] theorem cse_71 {k : Env → R → Rs β} : cE (fC (.str "told")) env h k = k env (.sh true (cS [116, 111, 108, 100])) := by rw [cs_71]; rfl
theorem cs_72 : ("odd" : Str) = SX.S [111, 100, 100] := by decide +kernel
@[simp ↓ high] theorem csr_72 {k : Env → Bool → PyData → Rs β} : cV (rd (fC (.str "odd"))) env h k = k env true (cS [111, 100, 100]) := by rw [cs_72]; rfl
@[simp ↓ high] theorem css_72 {k : Env → Bool → PyData → Rs β} : cV (st (fC (.str "odd"))) env h k = k env true (cS [111, 100, 100]) := by rw [cs_72]; rfl
@[simp ↓ high] theorem cse_72 {k : Env → R → Rs β} : cE (fC (.str "odd")) env h k = k env (.sh true (cS [111, 100, 100])) := by rw [cs_72]; rfl
theorem cs_73 : ("number" : Str) = SX.S [110, 117, 109, 98, 101, 114] := by decide +kernel
@[simp ↓ high] theorem csr_73 {k : Env → Bool → PyData → Rs β} : cV (rd (fC (.str "number"))) env h k = k env true (cS [110, 117, 109, 98, 101, 114]) := by rw [cs_73]; rfl
@[simp ↓ high] theorem css_73 {k : Env → Bool → PyData → Rs β} : cV (st (fC (.str "number"))) env h k = k env true (cS [110, 117, 109, 98, 101, 114]) := by rw [cs_73]; rfl
@[simp ↓ high] theorem cse_73 {k : Env → R → Rs β} : cE (fC (.str "number")) env h k = k env (.sh true (cS [110, 117, 109, 98, 101, 114])) := by rw [cs_73]; rfl
theorem cs_74 : ("undo" : Str) = SX.S [117, 110, 100, 111] := by decide +kernel
@[simp ↓ high] theorem csr_74 {k : Env → Bool → PyData → Rs β} : cV (rd (fC (.str "undo"))) env h k = k env true (cS [117, 110, 100, 111]) := by rw [cs_74]; rfl
@[simp ↓ high] theorem css_74 {k : Env → Bool → PyData → Rs β} : cV (st (fC (.str "undo"))) env h k = k env true (cS [117, 110, 100, 111]) := by rw [cs_74]; rfl
@[simp ↓ high] theorem cse_74 {k : Env → R → Rs β} : cE (fC (.str "undo")) env h k = k env (.sh true (cS [117, 110, 100, 111])) := by rw [cs_74]; rfl
theorem cs_75 : ("redo" : Str) = SX.S [114, 101, 100, 111] := by decide +kernel
@[simp ↓ high] theorem csr_75 {k : Env → Bool → PyData → Rs β} : cV (rd (fC (.str "redo"))) env h k = k env true (cS [114, 101, 100, 111]) := by rw [cs_75]; rfl
@[simp ↓ high] theorem css_75 {k : Env → Bool → PyData → Rs β} : cV (st (fC (.str "redo"))) env h k = k env true (cS [114, 101, 100, 111]) := by rw [cs_75]; rfl
@[simp ↓ high] theorem cse_75 {k : Env → R → Rs β} : cE (fC (.str "redo")) env h k = k env (.sh true (cS [114, 101, 100, 111])) := by rw [cs_75]; rfl
theorem cs_76 : ("answer" : Str) = SX.S [97, 110, 115, 119, 101, 114] := by decide +kernel
@[simp ↓ high] theorem csr_76 {k : Env → Bool → PyData → Rs β} : cV (rd (fC (.str "answer"))) env h k = k env true (cS [97, 110, 115, 119, 101, 114]) := by rw [cs_76]; rfl
@[simp ↓ high] theorem css_76 {k : Env → Bool → PyData → Rs β} : cV (st (fC (.str "answer"))) env h k = k env true (cS [97, 110, 115, 119, 101, 114]) := by rw [cs_76]; rfl
@[simp ↓ high] theorem cse_76 {k : Env → R → Rs β} : cE (fC (.str "answer")) env h k = k env (.sh true (cS [97, 110, 115, 119, 101, 114])) := by rw [cs_76]; rfl
theorem cs_77 : ("shut" : Str) = SX.S [115, 104, 117, 116] := by decide +kernel
@[simp ↓ high] theorem csr_77 {k : Env → Bool → PyData → Rs β} : cV (rd (fC (.str "shut"))) env h k = k env true (cS [115, 104, 117, 116]) := by rw [cs_77]; rfl
@[simp ↓ high] theorem css_77 {k : Env → Bool → PyData → Rs β} : cV (st (fC (.str "shut"))) env h k = k env true (cS [115, 104, 117, 116]) := by rw [cs_77]; rfl
@[simp ↓ high] theorem cse_77 {k : Env → R → Rs β} : cE (fC (.str "shut")) env h k = k env (.sh true (cS [115, 104, 117, 116])) := by rw [cs_77]; rfl
theorem cs_78 : ("build" : Str) = SX.S [98, 117, 105, 108, 100] := by decide +kernel
@[simp ↓ high] theorem csr_78 {k : Env → Bool → PyData → Rs β} : cV (rd (fC (.str "build"))) env h k = k env true (cS [98, 117, 105, 108, 100]) := by rw [cs_78]; rfl
@[simp ↓ high] theorem css_78 {k : Env → Bool → PyData → Rs β} : cV (st (fC (.str "build"))) env h k = k env true (cS [98, 117, 105, 108, 100]) := by rw [cs_78]; rfl
@[simp ↓ high] theorem cse_78 {k : Env → R → Rs β} : cE (fC (.str "build")) env h k = k env (.sh true (cS [98, 117, 105, 108, 100])) := by rw [cs_78]; rfl
theorem cs_79 : ("BadPlace" : Str) = SX.S [66, 97, 100, 80, 108, 97, 99, 101] := by decide +kernel
@[simp ↓ high] theorem csr_79 {k : Env → Bool → PyData → Rs β} : cV (rd (fC (.str "BadPlace"))) env h k = k env true (cS [66, 97, 100, 80, 108, 97, 99, 101]) := by rw [cs_79]; rfl
@[simp ↓ high] theorem css_79 {k : Env → Bool → PyData → Rs β} : cV (st (fC (.str "BadPlace"))) env h k = k env true (cS [66, 97, 100, 80, 108, 97, 99, 101]) := by rw [cs_79]; rfl
@[simp ↓ high] theorem cse_79 {k : Env → R → Rs β} : cE (fC (.str "BadPlace")) env h k = k env (.sh true (cS [66, 97, 100, 80, 108, 97, 99, 101])) := by rw [cs_79]; rfl
theorem cs_80 : ("BadRoad " : Str) = SX.S [66, 97, 100, 82, 111, 97, 100, 32] := by decide +kernel
@[simp ↓ high] theorem csr_80 {k : Env → Bool → PyData → Rs β} : cV (rd (fC (.str "BadRoad "))) env h k = k env true (cS [66, 97, 100, 82, 111, 97, 100, 32]) := by rw [cs_80]; rfl
@[simp ↓ high] theorem css_80 {k : Env → Bool → PyData → Rs β} : cV (st (fC (.str "BadRoad "))) env h k = k env true (cS [66, 97, 100, 82, 111, 97, 100, 32]) := by rw [cs_80]; rfl
@[simp ↓ high] theorem cse_80 {k : Env → R → Rs β} : cE (fC (.str "BadRoad ")) env h k = k env (.sh true (cS [66, 97, 100, 82, 111, 97, 100, 32])) := by rw [cs_80]; rfl
theorem cs_81 : ("NotAnswer" : Str) = SX.S [78, 111, 116, 65, 110, 115, 119, 101, 114] := by decide +kernel
@[simp ↓ high] theorem csr_81 {k : Env → Bool → PyData → Rs β} : cV (rd (fC (.str "NotAnswer"))) env h k = k env true (cS [78, 111, 116, 65, 110, 115, 119, 101, 114]) := by rw [cs_81]; rfl
@[simp ↓ high] theorem css_81 {k : Env → Bool → PyData → Rs β} : cV (st (fC (.str "NotAnswer"))) env h k = k env true (cS [78, 111, 116, 65, 110, 115, 119, 101, 114]) := by rw [cs_81]; rfl
@[simp ↓ high] theorem cse_81 {k : Env → R → Rs β} : cE (fC (.str "NotAnswer")) env h k = k env (.sh true (cS [78, 111, 116, 65, 110, 115, 119, 101, 114])) := by rw [cs_81]; rfl
theorem cs_82 : ("NoRoad" : Str) = SX.S [78, 111, 82, 111, 97, 100] := by decide +kernel
@[simp ↓ high] theorem csr_82 {k : Env → Bool → PyData → Rs β} : cV (rd (fC (.str "NoRoad"))) env h k = k env true (cS [78, 111, 82, 111, 97, 100]) := by rw [cs_82]; rfl
@[simp ↓ high] theorem css_82 {k : Env → Bool → PyData → Rs β} : cV (st (fC (.str "NoRoad"))) env h k = k env true (cS [78, 111, 82, 111, 97, 100]) := by rw [cs_82]; rfl
@[simp ↓ high] theorem cse_82 {k : Env → R → Rs β} : cE (fC (.str "NoRoad")) env h k = k env (.sh true (cS [78, 111, 82, 111, 97, 100])) := by rw [cs_82]; rfl
theorem cs_83 : ("NoAnswer" : Str) = SX.S [78, 111, 65, 110, 115, 119, 101, 114] := by decide +kernel
@[simp ↓ high] theorem csr_83 {k : Env → Bool → PyData → Rs β} : cV (rd (fC (.str "NoAnswer"))) env h k = k env true (cS [78, 111, 65, 110, 115, 119, 101, 114]) := by rw [cs_83]; rfl
@[simp ↓ high] theorem css_83 {k : Env → Bool → PyData → Rs β} : cV (st (fC (.str "NoAnswer"))) env h k = k env true (cS [78, 111, 65, 110, 115, 119, 101, 114]) := by rw [cs_83]; rfl
@[simp ↓ high] theorem cse_83 {k : Env → R → Rs β} : cE (fC (.str "NoAnswer")) env h k = k env (.sh true (cS [78, 111, 65, 110, 115, 119, 101, 114])) := by rw [cs_83]; rfl
theorem cs_84 : ("BadRoad" : Str) = SX.S [66, 97, 100, 82, 111, 97, 100] := by decide +kernel
@[simp ↓ high] theorem csr_84 {k : Env → Bool → PyData → Rs β} : cV (rd (fC (.str "BadRoad"))) env h k = k env true (cS [66, 97, 100, 82, 111, 97, 100]) := by rw [cs_84]; rfl
@[simp ↓ high] theorem css_84 {k : Env → Bool → PyData → Rs β} : cV (st (fC (.str "BadRoad"))) env h k = k env true (cS [66, 97, 100, 82, 111, 97, 100]) := by rw [cs_84]; rfl
@[simp ↓ high] theorem cse_84 {k : Env → R → Rs β} : cE (fC (.str "BadRoad")) env h k = k env (.sh true (cS [66, 97, 100, 82, 111, 97, 100])) := by rw [cs_84]; rfl
theorem cs_85 : ("BadStand" : Str) = SX.S [66, 97, 100, 83, 116, 97, 110, 100] := by decide +kernel
@[simp ↓ high] theorem csr_85 {k : Env → Bool → PyData → Rs β} : cV (rd (fC (.str "BadStand"))) env h k = k env true (cS [66, 97, 100, 83, 116, 97, 110, 100]) := by rw [cs_85]; rfl
@[simp ↓ high] theorem css_85 {k : Env → Bool → PyData → Rs β} : cV (st (fC (.str "BadStand"))) env h k = k env true (cS [66, 97, 100, 83, 116, 97, 110, 100]) := by rw [cs_85]; rfl
@[simp ↓ high] theorem cse_85 {k : Env → R → Rs β} : cE (fC (.str "BadStand")) env h k = k env (.sh true (cS [66, 97, 100, 83, 116, 97, 110, 100])) := by rw [cs_85]; rfl
theorem cs_86 : ("BadSize" : Str) = SX.S [66, 97, 100, 83, 105, 122, 101] := by decide +kernel
@[simp ↓ high] theorem csr_86 {k : Env → Bool → PyData → Rs β} : cV (rd (fC (.str "BadSize"))) env h k = k env true (cS [66, 97, 100, 83, 105, 122, 101]) := by rw [cs_86]; rfl
@[simp ↓ high] theorem css_86 {k : Env → Bool → PyData → Rs β} : cV (st (fC (.str "BadSize"))) env h k = k env true (cS [66, 97, 100, 83, 105, 122, 101]) := by rw [cs_86]; rfl
@[simp ↓ high] theorem cse_86 {k : Env → R → Rs β} : cE (fC (.str "BadSize")) env h k = k env (.sh true (cS [66, 97, 100, 83, 105, 122, 101])) := by rw [cs_86]; rfl
theorem cs_87 : ("NothingToUndo" : Str) = SX.S [78, 111, 116, 104, 105, 110, 103, 84, 111, 85, 110, 100, 111] := by decide +kernel
@[simp ↓ high] theorem csr_87 {k : Env → Bool → PyData → Rs β} : cV (rd (fC (.str "NothingToUndo"))) env h k = k env true (cS [78, 111, 116, 104, 105, 110, 103, 84, 111, 85, 110, 100, 111]) := by rw [cs_87]; rfl
@[simp ↓ high] theorem css_87 {k : Env → Bool → PyData → Rs β} : cV (st (fC (.str "NothingToUndo"))) env h k = k env true (cS [78, 111, 116, 104, 105, 110, 103, 84, 111, 85, 110, 100, 111]) := by rw [cs_87]; rfl
@[simp ↓ high] theorem cse_87 {k : Env → R → Rs β} : cE (fC (.str "NothingToUndo")) env h k = k env (.sh true (cS [78, 111, 116, 104, 105, 110, 103, 84, 111, 85, 110, 100, 111])) := by rw [cs_87]; rfl
theorem cs_88 : ("NothingToRedo" : Str) = SX.S [78, 111, 116, 104, 105, 110, 103, 84, 111, 82, 101, 100, 111] := by decide +kernel
@[simp ↓ high] theorem csr_88 {k : Env → Bool → PyData → Rs β} : cV (rd (fC (.str "NothingToRedo"))) env h k = k env true (cS [78, 111, 116, 104, 105, 110, 103, 84, 111, 82, 101, 100, 111]) := by rw [cs_88]; rfl
@[simp ↓ high] theorem css_88 {k : Env → Bool → PyData → Rs β} : cV (st (fC (.str "NothingToRedo"))) env h k = k env true (cS [78, 111, 116, 104, 105, 110, 103, 84, 111, 82, 101, 100, 111]) := by rw [cs_88]; rfl
@[simp ↓ high] theorem cse_88 {k : Env → R → Rs β} : cE (fC (.str "NothingToRedo")) env h k = k env (.sh true (cS [78, 111, 116, 104, 105, 110, 103, 84, 111, 82, 101, 100, 111])) := by rw [cs_88]; rfl
theorem cs_89 : ("BadEntry" : Str) = SX.S [66, 97, 100, 69, 110, 116, 114, 121] := by decide +kernel
@[simp ↓ high] theorem csr_89 {k : Env → Bool → PyData → Rs β} : cV (rd (fC (.str "BadEntry"))) env h k = k env true (cS [66, 97, 100, 69, 110, 116, 114, 121]) := by rw [cs_89]; rfl
@[simp ↓ high] theorem css_89 {k : Env → Bool → PyData → Rs β} : cV (st (fC (.str "BadEntry"))) env h k = k env true (cS [66, 97, 100, 69, 110, 116, 114, 121]) := by rw [cs_89]; rfl
@[simp ↓ high] theorem cse_89 {k : Env → R → Rs β} : cE (fC (.str "BadEntry")) env h k = k env (.sh true (cS [66, 97, 100, 69, 110, 116, 114, 121])) := by rw [cs_89]; rfl
theorem cs_90 : ("raised" : Str) = SX.S [114, 97, 105, 115, 101, 100] := by decide +kernel
@[simp ↓ high] theorem csr_90 {k : Env → Bool → PyData → Rs β} : cV (rd (fC (.str "raised"))) env h k = k env true (cS [114, 97, 105, 115, 101, 100]) := by rw [cs_90]; rfl
@[simp ↓ high] theorem css_90 {k : Env → Bool → PyData → Rs β} : cV (st (fC (.str "raised"))) env h k = k env true (cS [114, 97, 105, 115, 101, 100]) := by rw [cs_90]; rfl
@[simp ↓ high] theorem cse_90 {k : Env → R → Rs β} : cE (fC (.str "raised")) env h k = k env (.sh true (cS [114, 97, 105, 115, 101, 100])) := by rw [cs_90]; rfl
theorem cs_91 : ("BadRoad 0" : Str) = SX.S [66, 97, 100, 82, 111, 97, 100, 32, 48] := by decide +kernel
@[simp ↓ high] theorem csr_91 {k : Env → Bool → PyData → Rs β} : cV (rd (fC (.str "BadRoad 0"))) env h k = k env true (cS [66, 97, 100, 82, 111, 97, 100, 32, 48]) := by rw [cs_91]; rfl
@[simp ↓ high] theorem css_91 {k : Env → Bool → PyData → Rs β} : cV (st (fC (.str "BadRoad 0"))) env h k = k env true (cS [66, 97, 100, 82, 111, 97, 100, 32, 48]) := by rw [cs_91]; rfl
@[simp ↓ high] theorem cse_91 {k : Env → R → Rs β} : cE (fC (.str "BadRoad 0")) env h k = k env (.sh true (cS [66, 97, 100, 82, 111, 97, 100, 32, 48])) := by rw [cs_91]; rfl
end
end Dn
namespace Dn
open PySem PySem.Spec L2 A1 A2 A3
theorem num_len : ∀ n : Nat, n < 1000 → (numC (n : Int)).length ≤ 3 := by
  intro n hn
  have key : ∀ k : Fin 1000, (numC ((k : Nat) : Int)).length ≤ 3 := by decide +kernel
  exact key ⟨n, hn⟩
theorem numC_len {i : Int} (h : 0 ≤ i ∧ i < 1000) : (numC i).length ≤ 3 := by
  have := num_len i.toNat (by omega)
  rwa [show ((i.toNat : Nat) : Int) = i by omega] at this
structure RpOk (d : PyData) (dep len : Nat) : Prop where
  lay : PyData.canLay0 d = true
  sh : PyData.showable d = true
  dp : d.depth ≤ dep
  len : d.shown.length ≤ len
theorem RpOk.ok {d : PyData} {dep len : Nat} (h : RpOk d dep len) (h1 : dep ≤ 60) (h2 : len ≤ 1000000) : reprOk d = true := by
  unfold reprOk
  rw [h.lay, h.sh, decide_eq_true (Nat.le_trans h.dp h1), decide_eq_true (Nat.le_trans h.len h2)]; rfl
theorem RpOk.int {i : Int} (h : 0 ≤ i ∧ i < 1000) : RpOk (.int i) 0 3 := by
  refine ⟨rfl, ?_, Nat.le_refl _, ?_⟩
  · unfold PyData.showable
    refine decide_eq_true ?_
    have : i.natAbs < 1024 := by omega
    by_cases z : i.natAbs = 0
    · rw [z]; decide
    · have := (Nat.log2_lt z).mpr (show i.natAbs < 2 ^ 10 by omega); omega
  · have := numC_len h
    unfold PyData.shown
    rw [num_str, SX.S_len]; exact this
theorem RpOk.non : RpOk .none 0 4 := ⟨rfl, rfl, Nat.le_refl _, by decide⟩
structure RpAll (ds : List PyData) (dep len : Nat) : Prop where
  lay : PyData.canLayAll0 ds = true
  sh : PyData.showableAll ds = true
  dp : PyData.depthAll ds ≤ dep
  len : ((PyData.shownAll ds).map (·.length)).sum ≤ len
theorem RpAll.nil : RpAll [] 0 0 := ⟨rfl, rfl, Nat.le_refl _, Nat.le_refl _⟩
theorem RpAll.cons {d : PyData} {ds : List PyData} {a b x y : Nat} (h : RpOk d a x) (t : RpAll ds b y) : RpAll (d :: ds) (max a b) (x + y) := by
  refine ⟨by unfold PyData.canLayAll0; rw [h.lay, t.lay]; rfl, by unfold PyData.showableAll; rw [h.sh, t.sh]; rfl, ?_, ?_⟩
  · have h1 := h.dp
    have h2 := t.dp
    unfold PyData.depthAll
    omega
  · have h1 := h.len
    have h2 := t.len
    unfold PyData.shownAll
    rw [List.map_cons, List.sum_cons]
    omega
theorem RpOk.list {ds : List PyData} {a x : Nat} (h : RpAll ds a x) : RpOk (.list ds) (a + 1) (x + 2 * ds.length + 3) := by
  refine ⟨by unfold PyData.canLay0; exact h.lay, by unfold PyData.showable; exact h.sh, ?_, ?_⟩
  · have := h.dp
    unfold PyData.depth
    omega
  · have h1 := listText_len_le (PyData.shownAll ds)
    have h2 := h.len
    rw [PyData.shownAll_length] at h1
    unfold PyData.shown
    omega
theorem RpOk.tup {ds : List PyData} {a x : Nat} (h : RpAll ds a x) : RpOk (.tuple ds) (a + 1) (x + 2 * ds.length + 3) := by
  refine ⟨by unfold PyData.canLay0; exact h.lay, by unfold PyData.showable; exact h.sh, ?_, ?_⟩
  · have := h.dp
    unfold PyData.depth
    omega
  · have h1 := tupleText_len_le (PyData.shownAll ds)
    have h2 := h.len
    rw [PyData.shownAll_length] at h1
    unfold PyData.shown
    omega
theorem RpAll.map {α : Type} {c : α → PyData} {dep len : Nat} : ∀ {xs : List α}, (∀ x ∈ xs, RpOk (c x) dep len) → RpAll (xs.map c) dep (xs.length * len)
  | [], _ => ⟨rfl, rfl, Nat.zero_le _, Nat.zero_le _⟩
  | x :: xs, h => by
    have h1 := h x List.mem_cons_self
    have h2 := RpAll.map (xs := xs) fun y hy => h y (List.mem_cons_of_mem _ hy)
    have h3 := RpAll.cons h1 h2
    rw [List.length_cons, Nat.succ_mul, Nat.add_comm (xs.length * len)]
    refine ⟨h3.lay, h3.sh, ?_, h3.len⟩
    have := h3.dp
    rw [Nat.max_self] at this
    exact this
theorem RpOk.mono {d : PyData} {a b x y : Nat} (h : RpOk d a x) (h1 : a ≤ b) (h2 : x ≤ y) : RpOk d b y := ⟨h.lay, h.sh, Nat.le_trans h.dp h1, Nat.le_trans h.len h2⟩
section
variable {β : Type}
@[simp ↓] theorem grd_rp {d : PyData} {r : Rs β} (h : reprOk d = true) : grd (reprOk d) r = r := by rw [h]; rfl
end
end Dn
namespace Dn
open PySem PySem.Spec L2 A1 A2 A3
open PyProof.Rows hiding St
section
variable {X : Cx} {pins : List (Addr × Obj)} {σ : St} {H H' : Hp} {s : Shared} {a : Addr} {y v : V} {u r : Value} {E : Value → Shared → Prop}
end
def e0 : Option Bool → Addr → HO
  | some true, _ => .dT []
  | some false, _ => .dK []
  | none, D => dN D []
section
variable {X : Cx} {pins : List (Addr × Obj)} {σ : St} {H H' : Hp} {s : Shared} {a : Addr} {y v : V} {u r : Value} {E : Value → Shared → Prop}
end
section
variable {X : Cx} {kx vx tg iter : Expr} {ifs : List Expr} {scope : Scope} {own : List (Str × Nat)} {wi : TI} {g : TG} {tt : TT} {tk tv : TE} {kd : Option Bool}
end
end Dn
namespace Dn
open PySem PySem.Spec L2 A1 A2 A3
def keyS : PyData → Option Key
  | .int i => some (.inl i)
  | .str x => some (.inr x)
  | _ => none
def keyL : List PyData → Option (List Key)
  | [] => some []
  | d :: ds => match keyS d, keyL ds with
    | some k, some ks => some (k :: ks)
    | _, _ => none
def tkey : PyData → Option (List Key)
  | .tuple ds => keyL ds
  | _ => none
def putG {κ α : Type} [DecidableEq κ] (kvs : List (κ × α)) (k : κ) (v : α) : List (κ × α) :=
  if (kvs.any fun kv => decide (kv.1 = k)) = true then kvs.map (fun kv => if kv.1 = k then (kv.1, v) else kv) else kvs ++ [(k, v)]
def valG {κ α : Type} [DecidableEq κ] (kvs : List (κ × α)) (k : κ) : Option α := (kvs.find? fun kv => decide (kv.1 = k)).map (·.2)
section
variable {K : PySem.W.Frag} {H0 F F' H : Hp} {n : Bool}
theorem Dr.length : ∀ {r : List (List Key × V)} {q : List (List Key × PyData)}, Dr K H0 F r q → r.length = q.length
  | _, _, .nil => rfl
  | _, _, .cons _ t => by simp [t.length]
theorem Dr.any {k : List Key} : ∀ {r : List (List Key × V)} {q : List (List Key × PyData)}, Dr K H0 F r q → (r.any fun kv => decide (kv.1 = k)) = q.any fun kv => decide (kv.1 = k)
  | _, _, .nil => rfl
  | _, _, .cons _ t => by simp only [List.any_cons]; rw [t.any]
theorem Dr.app : ∀ {r r2 : List (List Key × V)} {q q2 : List (List Key × PyData)}, Dr K H0 F r q → Dr K H0 F r2 q2 → Dr K H0 F (r ++ r2) (q ++ q2)
  | _, _, _, _, .nil, h => h
  | _, _, _, _, .cons h t, h2 => .cons h (t.app h2)
theorem Dr.repl {k : List Key} {v : V} {d : PyData} (hv : Is K H0 false F v d) : ∀ {r : List (List Key × V)} {q : List (List Key × PyData)}, Dr K H0 F r q → Dr K H0 F (r.map fun kv => if kv.1 = k then (kv.1, v) else kv) (q.map fun kv => if kv.1 = k then (kv.1, d) else kv)
  | _, _, .nil => .nil
  | _, _, .cons (k := j) h t => by
    simp only [List.map_cons]
    by_cases z : j = k
    · rw [if_pos z, if_pos z]; exact .cons hv (t.repl hv)
    · rw [if_neg z, if_neg z]; exact .cons h (t.repl hv)
theorem Dr.put {k : List Key} {v : V} {d : PyData} {r : List (List Key × V)} {q : List (List Key × PyData)} (h : Dr K H0 F r q) (hv : Is K H0 false F v d) : Dr K H0 F (putK r k v) (putG q k d) := by
  unfold putK putG
  rw [h.any]
  split
  · exact h.repl hv
  · exact h.app (.cons hv .nil)
theorem Dr.val {k : List Key} : ∀ {r : List (List Key × V)} {q : List (List Key × PyData)}, Dr K H0 F r q → (∃ v d, valV r k = some v ∧ valG q k = some d ∧ Is K H0 false F v d) ∨ (valV r k = none ∧ valG q k = none)
  | _, _, .nil => .inr ⟨rfl, rfl⟩
  | _, _, .cons (k := j) h t => by
    by_cases z : j = k
    · refine .inl ⟨_, _, ?_, ?_, h⟩
      · unfold valV; rw [List.find?_cons_of_pos (by simpa using z)]; rfl
      · unfold valG; rw [List.find?_cons_of_pos (by simpa using z)]; rfl
    · have e1 : ∀ {α : Type} (x : α) (l : List (List Key × α)), (((j, x) :: l).find? fun kv => decide (kv.1 = k)) = l.find? fun kv => decide (kv.1 = k) := fun x l => List.find?_cons_of_neg (by simpa using z)
      rcases t.val (k := k) with ⟨v, d, h1, h2, h3⟩ | ⟨h1, h2⟩
      · exact .inl ⟨v, d, by unfold valV at h1 ⊢; rw [e1]; exact h1, by unfold valG at h2 ⊢; rw [e1]; exact h2, h3⟩
      · exact .inr ⟨by unfold valV at h1 ⊢; rw [e1]; exact h1, by unfold valG at h2 ⊢; rw [e1]; exact h2⟩
end
def fDcL (own : List Nat) (g : FG) (t : FT) (fk fv : FV) : List Dv → Env → List (List Key × PyData) → Rs (Env × List (List Key × PyData))
  | [], e, acc => .ok (e, acc)
  | x :: xs, e, acc => (noex (g x e)).bind fun e1 => (noex (t e1)).bind fun b => if b = true then (noex (fk e1)).bind fun p => (noex (fv p.1)).bind fun q => (match tkey p.2.2 with
      | some k => grd (decide (acc.length < 1000000)) (fDcL own g t fk fv xs (wipeE q.1 own) (putG acc k q.2.2))
      | none => .bad) else fDcL own g t fk fv xs (wipeE e1 own) acc
def fDc (own : List Nat) (it : FA) (g : FG) (t : FT) (fk fv : FV) : FE := fun env => (it env).bind fun p => grd (okOwn p.1 own) ((fDcL own g t fk fv p.2 (wipeE p.1 own) []).bind fun q => .ok (backE p.1 q.1 own, .sh false (dD q.2)))
section
variable {K : PySem.W.Frag} {H0 F0 F H : Hp} {env : Env} {σ : St} {D : Addr} {o o' : HO}
end
end Dn
namespace Dn
open PySem PySem.Spec L2 A1 A2 A3
section
variable {X : Cx} {W : WX} {e a b : Expr} {f fa fb : FE} {pos : PySem.Pos}
def findT : List (PyData × PyData) → List Key → Option PyData
  | [], _ => none
  | (d, v) :: r, k => if tkey d = some k then some v else findT r k
def gGet (kvs : List (PyData × PyData)) (k : List Key) : R := match findT kvs k with
  | some d => .sh (atom d) d
  | none => .sh true .none
def entsT : PyData → Option (List (PyData × PyData))
  | .dict ((.bool true, .none) :: kvs) => some kvs
  | _ => none
theorem keyS_D (k : Key) : keyS (kD k) = some k := by cases k <;> rfl
theorem keyL_D : ∀ k : List Key, keyL (k.map kD) = some k
  | [] => rfl
  | x :: k => by
    show keyL (kD x :: k.map kD) = _
    unfold keyL
    rw [keyS_D, keyL_D k]
theorem tkey_enc (k : List Key) : tkey (encT k) = some k := keyL_D k
theorem findT_enc {k : List Key} : ∀ q : List (List Key × PyData), findT (q.map fun p => (encT p.1, p.2)) k = valG q k
  | [] => rfl
  | p :: q => by
    show (if tkey (encT p.1) = some k then some p.2 else findT (q.map fun p => (encT p.1, p.2)) k) = _
    rw [tkey_enc, findT_enc q]
    unfold valG
    by_cases z : p.1 = k
    · rw [if_pos (by rw [z]), List.find?_cons_of_pos (by simpa using z)]; rfl
    · rw [if_neg (fun h => z (Option.some.inj h)), List.find?_cons_of_neg (by simpa using z)]
def fGet (fo fe : FV) : FE := fun env => (fo env).bind fun p => match entsT p.2.2 with
  | some kvs => (fe p.1).bind fun q => match tkey q.2.2 with
    | some k => .ok (q.1, gGet kvs k)
    | none => .bad
  | none => .bad
def boolsOf : List PyData → Option (List Bool)
  | [] => some []
  | .bool b :: ds => (boolsOf ds).map (b :: ·)
  | _ :: _ => none
theorem boolsOf_map : ∀ bs : List Bool, boolsOf (bs.map PyData.bool) = some bs
  | [] => rfl
  | b :: bs => by
    show (boolsOf (bs.map PyData.bool)).map (b :: ·) = _
    rw [boolsOf_map bs]; rfl
def bAll (p : Dv) : Rs R := match p.2 with
  | .list ds => match boolsOf ds with
    | some bs => sc (.bool (bs.all id))
    | none => .bad
  | _ => .bad
def bAny (p : Dv) : Rs R := match p.2 with
  | .list ds => match boolsOf ds with
    | some bs => sc (.bool (bs.any id))
    | none => .bad
  | _ => .bad
def flatD : PyData → Bool
  | .none => true
  | .bool _ => true
  | .int _ => true
  | .str _ => true
  | _ => false
def eqF : PyData → PyData → Bool
  | .none, .none => true
  | .bool a, .bool b => a == b
  | .bool a, .int b => (if a then 1 else 0) == b
  | .int a, .bool b => a == (if b then 1 else 0)
  | .int a, .int b => a == b
  | .str a, .str b => a == b
  | _, _ => false
def inF (d : PyData) (ds : List PyData) : Bool := ds.any fun y => eqF y d
def seqL : PyData → Option (List PyData)
  | .list ds => some ds
  | .tuple ds => some ds
  | _ => none
inductive Fl : V → PyData → Prop
  | non : Fl .non .none
  | bl (b : Bool) : Fl (.bl b) (.bool b)
  | int (i : Int) : Fl (.int i) (.int i)
  | str (x : Str) : Fl (.str x) (.str x)
def inD (p q : Dv) : Option Bool := match entsU q.2, entsK q.2 with
  | some es, _ => (keyU p.2).map fun k => (lookU es k).isSome
  | none, some es => (keyK p.2).map fun k => (lookK es k).isSome
  | none, none => none
def gInN (neg : Bool) : G2 := fun p q => match seqL q.2 with
  | some ds => grd (flatD p.2 && ds.all flatD) (sc (.bool (if neg = true then !inF p.2 ds else inF p.2 ds)))
  | none => match inD p q with
    | some b => sc (.bool (if neg = true then !b else b))
    | none => .bad
def fEnum (f : FV) : FA := fun env => (f env).bind fun p => match p.2.2 with
  | .list ds => .ok (p.1, (List.range ds.length).zipWith (fun i d => (p.2.1, .tuple [.int (i : Nat), d])) ds)
  | _ => .bad
theorem zip_get {α β : Type} (g : Nat → α → β) : ∀ (ds : List α) (i k : Nat), ((List.range' k ds.length).zipWith g ds)[i]? = (ds[i]?).map (g (k + i))
  | [], i, k => by simp
  | d :: ds, 0, k => by simp [List.range'_succ]
  | d :: ds, i + 1, k => by
    rw [List.length_cons, List.range'_succ, List.zipWith_cons_cons, List.getElem?_cons_succ, zip_get g ds i (k + 1), List.getElem?_cons_succ]
    congr 2; omega
def IteZ (K : PySem.W.Frag) (a : Addr) : It where
  go := fun i H => ∃ (xs : List V) (x : V), SqL K H a xs ∧ xs[i]? = some x
  yld := fun i H v H' => ∃ (T : Addr) (x : V) (ob : Obj), v = .ref T ∧ H T = none ∧ ob.dict = none ∧ H' = upd H T (tupZ ob [.int (i : Nat), x]) ∧ ∀ xs, SqL K H a xs → xs[i]? = some x
  stop := fun i H => ∃ xs : List V, SqL K H a xs ∧ xs.length ≤ i
def enumAt (a e it : Addr) (i : Nat) (h : Heap) : Prop := (∃ old, IsEnum h e it ((i : Nat) : Int) old) ∧ h.IsListIter it a i ∧ e ≠ it
theorem two_of {b e it : Addr} {M : Addr → Prop} (hb : b ∈ [e, it]) (h1 : M e) (h2 : M it) : M b := by
  rcases List.mem_cons.mp hb with z | z
  · rw [z]; exact h1
  · rw [List.mem_singleton.mp z]; exact h2
theorem turnEZ {P : Program} {w : World} {K : PySem.W.Frag} {elts : List Expr} {kk : Nat} {tpos : PySem.Pos} (a e it : Addr) : Turn P w K (.Tuple elts kk tpos) (IteZ K a) [e, it] e (enumAt a e it) := by
  have base := turn_enum (P := P) (w := w) (K := K) (elts := elts) (kk := kk) (tpos := tpos) a e it
  refine ⟨base.mem, base.obj, base.keep, ?_, base.done, base.self⟩
  intro X hP hw hK hc i pins s σ H E I hf tn hg
  subst hP hw hK
  obtain ⟨⟨old, he⟩, hit, hne⟩ := tn
  obtain ⟨xs, x, hq, hx⟩ := hg
  obtain ⟨its, rv, pl, _⟩ := I.list hq
  obtain ⟨u, hu, ru⟩ := rv.get hx
  have le1 : e < s.heap.objs.size := Heap.lt_size he
  have le2 : it < s.heap.objs.size := let ⟨_, q, _⟩ := hit; Heap.lt_size q
  refine wpAny_pyNext_enum_item he hit pl.isList (x := u) (by simpa using hu) hne fun h1 own hit1 hT hsz hk => ?_
  refine ⟨_, rfl, wpAny_letOwnedTupleGo_enum (s := { s with heap := h1, toks := s.toks + 1 }) own fun h2 he2 sb => ?_⟩
  have at2 : h2.get? s.heap.objs.size = some { cls := .type "tuple", data := .seq #[.int i s.toks, u] } := (sb.2 _ (Nat.ne_of_gt le1)).trans hT
  have new : ObjOk X.prog X.w (upd H s.heap.objs.size (tupZ { cls := .type "tuple", data := .seq #[.int i s.toks, u] } [.int (i : Nat), x])) h2 s.heap.objs.size (tupZ { cls := .type "tuple", data := .seq #[.int i s.toks, u] } [.int (i : Nat), x]) :=
    ⟨at2, by show 2 ≤ sizeLine; decide, [.int i s.toks, u], .cons ⟨_, rfl⟩ (.cons ru .nil), ⟨_, at2, rfl, _, rfl⟩⟩
  have J := I.turnedNew (ch := [e, it]) (t' := s.toks + 1) (h' := h2) (fun b ob hb q => (sb.2 b (fun z => hb (by simp [z]))).trans (hk b ob (fun z => hb (by simp [z])) (fun z => hb (by simp [z])) q)) hf (Nat.le_refl _) new
  refine ⟨.ref s.heap.objs.size, _, J, rfl, ⟨_, x, _, rfl, I.hok.fresh (Nat.le_refl _), rfl, rfl, fun ys hy => by rw [I.list_inj hy hq]; exact hx⟩, ⟨⟨u, by rw [show ((i + 1 : Nat) : Int) = (i : Int) + 1 by omega]; exact he2⟩, hit1.at fun o q => (sb.2 it (Ne.symm hne)).trans q, hne⟩, fun b hb => ?_⟩
  rw [upd_ne (Nat.ne_of_lt (two_of (M := fun b => b < s.heap.objs.size) hb le1 le2))]
  exact (hf b hb).1
def iEnumZ (K : PySem.W.Frag) (ta : TA) : TI := fun σ H R => ta σ H fun vs H1 => ∃ a xs, vs = [.ref a] ∧ SqL K H1 a xs ∧ R (IteZ K a) H1
theorem pi_enumZ {X : Cx} {e : Expr} {ta : TA} {p pos tpos : PySem.Pos} {elts : List Expr} {kk : Nat} (hg : Gl X "enumerate") (hm : X.mg "enumerate" = none) (ha : PA X [e] ta) (hs : starEach [e] X.env = [(false, eval e X.env)] := by rfl) :
    PI X (.Tuple elts kk tpos) (.Call (.Name "enumerate" p) [e] [] pos) (iEnumZ X.K ta) := ⟨fun pins s σ H R I h => by
  refine PyProof.Rows.Call_ (ld_blt I hg hm PyProof.Rows.boot_enumerate (PyProof.Rows.callWith_type1 (thn (ha.run pos pins s σ H _ I h) fun us s1 ⟨vs, H1, J, rv, a, xs, ev, hq, q⟩ => ?_) hs rfl))
  subst ev
  obtain ⟨u, rfl, ru⟩ := vals1 rv
  cases ru
  obtain ⟨its, _, pl, _⟩ := J.list hq
  refine PySem.call_enumerate_list pl.isList fun h1 he hit hsz hk => wpAny_pyIter_enum he ?_
  have J2 : L2.Inv X pins σ H1 { s1 with heap := h1 } := J.kept (t' := s1.toks) hk
  refine ⟨s1.heap.objs.size + 1, [s1.heap.objs.size + 1, s1.heap.objs.size], _, _, H1, rfl, J2, turnEZ a (s1.heap.objs.size + 1) s1.heap.objs.size, ⟨⟨.none, he⟩, hit, Nat.succ_ne_self _⟩, fun b hb => ?_, q⟩
  have hle := two_of (M := fun b => s1.heap.objs.size ≤ b) hb (Nat.le_succ _) (Nat.le_refl _)
  exact J.fpOk hle (J.hok.fresh hle)⟩
theorem good_enum {K : PySem.W.Frag} {H0 F : Hp} {a : Addr} {xs : List V} {ds : List PyData} {n : Bool} (h : SqL K F a xs) (hi : IsA K H0 n F xs ds) : Good K H0 F (IteZ K a) ((List.range ds.length).zipWith (fun i d => (n, PyData.tuple [.int (i : Nat), d])) ds) := fun i F' H' e1 e2 => by
  have hs : SqL K H' a xs := (Sg.pre e1 e2).seq h
  have hget := zip_get (fun (i : Nat) (d : PyData) => (n, PyData.tuple [.int (i : Nat), d])) ds i 0
  rw [← List.range_eq_range', Nat.zero_add] at hget
  refine ⟨fun p hp => ?_, fun hl => ⟨xs, hs, by rw [hi.length]; simpa using hl⟩⟩
  rw [hget] at hp
  cases q : ds[i]? with
  | none => rw [q] at hp; cases hp
  | some d =>
    rw [q] at hp; cases hp
    obtain ⟨v, hv, hd⟩ := hi.get q
    refine ⟨⟨xs, v, hs, hv⟩, fun x H3 hy => ?_⟩
    obtain ⟨T, y, ob, rfl, hT, hob, rfl, hx⟩ := hy
    have := hx xs hs
    rw [hv] at this; cases this
    refine ⟨upd F' T (tupZ ob [.int (i : Nat), v]), Ext.alloc e2 hT, .tup (.new hob) (.cons (.int _) (.cons (hd.to (e1.trans (same_new (same_none e2 hT)))) .nil))⟩
theorem i_enum {tpos p : PySem.Pos} {elts : List Expr} {kk : Nat} (hg : Gl X "enumerate") (hm : X.mg "enumerate" = none) (h : DE X W e f) (hs : starEach [e] X.env = [(false, eval e X.env)] := by rfl) (he : starEach [e] X.env = (false, eval e X.env) :: starEach [] X.env := by rfl) :
    DI X W (.Tuple elts kk tpos) (.Call (.Name "enumerate" p) [e] [] pos) (fEnum (st f)) := pi_le (pi_enumZ hg hm (dad_cons h dad_nil he) hs) fun σ H Q ⟨H0, F0, F, env, r, q⟩ => by
  refine ⟨H0, F0, F, env, r, ?_⟩
  unfold fEnum at q
  unfold fCons
  refine Rs.post_bind.mpr (Rs.post_mono (Rs.post_bind.mp q) (fun p hp => ?_) fun _ _ x => x)
  obtain ⟨e', n, d⟩ := p
  dsimp only at hp
  split at hp
  · rename_i ds
    intro vs F' H' r' hv e1 e2
    cases hv with
    | cons h1 h2 =>
      cases h2
      have h1 : Is X.K H0 n F' _ (.list ds) := h1
      cases h1 with
      | lst hs _ ha => exact ⟨_, _, rfl, (r'.fz).seq hs, hp _ F' H' r' (good_enum hs ha) e1 e2⟩
  · exact hp.elim
end
end Dn
namespace Dn
open PySem PySem.Spec L2 A1 A2 A3
section
variable {X : Cx} {W : WX} {e a b : Expr} {f fa fb : FE} {pos : PySem.Pos}
def fAndV (f : FV) (g : FE) : FE := fun env => (f env).bind fun p => match p.2.2 with
  | .bool true => g p.1
  | .bool false => .ok (p.1, .sh true (.bool false))
  | _ => .bad
def fOrV (f : FV) (g : FE) : FE := fun env => (f env).bind fun p => match p.2.2 with
  | .bool false => g p.1
  | .bool true => .ok (p.1, .sh true (.bool true))
  | _ => .bad
def fNotV (f : FV) : FE := fun env => (f env).bind fun p => match p.2.2 with
  | .bool b => .ok (p.1, .sh true (.bool (!b)))
  | _ => .bad
theorem d_one {op : BoolOp} (h : DE X W a fa) : DE X W (.BoolOp op [a] pos) fa := pe_one h
theorem vw_bl {K : PySem.W.Frag} {H0 F H : Hp} {v : V} {n : Bool} {c : Bool} (h : Vw K H0 F H v (n, .bool c)) : v = .bl c := vw_bool h
theorem d_and {rest : List Expr} (ha : DE X W a fa) (hb : DE X W (.BoolOp .And (b :: rest) pos) fb) : DE X W (.BoolOp .And (a :: b :: rest) pos) (fAndV (rd fa) fb) :=
  pe_le (pe_and ha.v hb) fun σ H Q ⟨H0, F0, F, env, r, h⟩ => by
    refine ⟨H0, F0, F, env, r, ?_⟩
    unfold fAndV at h
    refine Rs.post_mono (Rs.post_bind.mp h) (fun p hp v F1 H1 r1 v1 e1 e2 => ?_) fun _ _ x => x
    obtain ⟨q, n, d⟩ := p
    dsimp only at hp v1 r1
    split at hp
    · refine ⟨true, vw_bl v1, ?_⟩
      rw [if_pos rfl]
      exact ⟨H0, F0, F1, q, r1, Rs.post_mono hp (fun p2 hp2 u F2 H2 r2 e3 e4 => hp2 u F2 H2 r2 (e1.trans e3) (e2.trans e4)) fun _ _ x => x.to e2 e1⟩
    · refine ⟨false, vw_bl v1, ?_⟩
      rw [if_neg (by decide)]
      exact hp (.bl false) F1 H1 ⟨r1, .bl false⟩ e1 e2
    · exact hp.elim
theorem d_or {rest : List Expr} (ha : DE X W a fa) (hb : DE X W (.BoolOp .Or (b :: rest) pos) fb) : DE X W (.BoolOp .Or (a :: b :: rest) pos) (fOrV (rd fa) fb) :=
  pe_le (pe_or ha.v hb) fun σ H Q ⟨H0, F0, F, env, r, h⟩ => by
    refine ⟨H0, F0, F, env, r, ?_⟩
    unfold fOrV at h
    refine Rs.post_mono (Rs.post_bind.mp h) (fun p hp v F1 H1 r1 v1 e1 e2 => ?_) fun _ _ x => x
    obtain ⟨q, n, d⟩ := p
    dsimp only at hp v1 r1
    split at hp
    · refine ⟨false, vw_bl v1, ?_⟩
      rw [if_neg (by decide)]
      exact ⟨H0, F0, F1, q, r1, Rs.post_mono hp (fun p2 hp2 u F2 H2 r2 e3 e4 => hp2 u F2 H2 r2 (e1.trans e3) (e2.trans e4)) fun _ _ x => x.to e2 e1⟩
    · refine ⟨true, vw_bl v1, ?_⟩
      rw [if_pos rfl]
      exact hp (.bl true) F1 H1 ⟨r1, .bl true⟩ e1 e2
    · exact hp.elim
theorem d_not (ha : DE X W a fa) : DE X W (.UnaryOp .Not a pos) (fNotV (rd fa)) :=
  pe_le (pe_not ha.v) fun σ H Q ⟨H0, F0, F, env, r, h⟩ => by
    refine ⟨H0, F0, F, env, r, ?_⟩
    unfold fNotV at h
    refine Rs.post_mono (Rs.post_bind.mp h) (fun p hp v F1 H1 r1 v1 e1 e2 => ?_) fun _ _ x => x
    obtain ⟨q, n, d⟩ := p
    dsimp only at hp v1 r1
    split at hp
    · exact ⟨_, vw_bl v1, hp _ F1 H1 ⟨r1, .bl _⟩ e1 e2⟩
    · exact hp.elim
def gRep : G2 := fun p q => match p, q.2 with
  | (true, .list ds), .int k => grd (small k && decide (ds.length * k.toNat ≤ 1000000)) (.ok (.nw true (List.replicate k.toNat ds).flatten))
  | _, _ => .bad
section
variable {k : Nat} {fA : Addr} {fd : FuncData} {ps ks : List Str} {S : SF} {x : Str} {p : PySem.Pos} {es : List Expr} {ga gk : FA}
def tCallG (K : PySem.W.Frag) (mg : Str → Option Value) (W : WX) (n : Nat) (S : SF) (f : FA) : TE := fun σ H Q => tAD K mg W f σ H fun vs H' => spD K mg n S vs H' Q fun cls d H'' => W cls d σ H''
theorem pe_callG (G : FnG X.prog X.w X.K X.mg X.base k fA fd ps S) (hr : Room k X.A) (hgd : X.A.guards = some []) (tk : Takes X W) (hg : Gl X x) (hm : X.mg x = some (.ref fA)) (hk : PySem.W.keepIn X.K (.ref fA) = true) (hb : Binds X.K fd ps [])
    (ha : DAD X W (e :: es) ga) (hdb : (x == ("__debug__" : Str)) = false := by decide) (he : starEach (e :: es) X.env = (false, eval e X.env) :: starEach es X.env := by rfl) (hpl : (backTo pos (starEach es X.env)).any (·.1) = false := by rfl) :
    PE X (.Call (.Name x p) (e :: es) [] pos) (tCallG X.K X.mg W ps.length S ga) := by
  refine ⟨fun pins s σ H Q I h => wpAny_Call_Name_kw (ld_glob I hg hm ?_ hdb)⟩
  refine PySem.W.callWith_K (h₀ := X.base) I.ok.mod.kin hk (thn (ha.run pos pins s σ H _ I h) fun us s1 ⟨vs, H1, I1, rv, q⟩ => ?_) he hpl
  have hl : us.length = ps.length := by rw [← rv.length]; exact let ⟨_, _, z, _⟩ := q; z
  have bd := hb s1 us I1.kIn (by rw [List.append_nil]; exact hl)
  rw [List.append_nil] at bd
  exact ⟨I1.kIn, run_g G hr hgd tk bd I1 rv q⟩
structure KB (K : PySem.W.Frag) (fd : FuncData) (ps ks : List Str) (np : Nat) : Prop where
  to : ∀ (s : Shared) (us ws : List Value), K.In s.heap → us.length = np → ws.length = ks.length → BindsTo s fd ⟨us, ks.zip ws⟩ (ps.zip (us ++ ws))
  len : ps.length = np + ks.length
end
end
end Dn
namespace Dn
open PySem PySem.Spec L2 A1 A2 A3
section
variable {K : PySem.W.Frag} {H0 F0 F H : Hp} {env : Env} {σ : St} {i : Nat} {s : Sl} {v : V}
theorem Rel.putS (r : Rel K H0 F0 (env ++ [some s]) (σ ++ [some v]) F H) : Rel K H0 F0 (env.set i (some s)) (σ.set i (some v)) F H := by
  obtain ⟨fp, r⟩ := r
  have hl : σ.length = env.length := by have := r.len; simpa using this
  obtain ⟨u, hu, h2⟩ := r.sl env.length _ app_get
  rw [← hl, app_get] at hu; cases hu
  refine ⟨fun j a => if j = i then fp env.length a else j < env.length ∧ fp j a, ⟨r.fz, r.base, by simp [hl], fun j t q => ?_, fun j k a h1 h2 => ?_, fun j a h1 => ?_, r.new, r.f0, r.tb⟩⟩
  · rcases set_get q with ⟨hj, hx⟩ | ⟨hj, hx⟩
    · have hs : s = t := Option.some.inj hx
      subst hs
      have hlt : j < σ.length := by have := (List.getElem?_eq_some_iff.mp q).1; rw [hl]; simpa using this
      refine ⟨v, by rw [hj] at hlt ⊢; exact List.getElem?_set_self hlt, ?_⟩
      have e : (fun a => if j = i then fp env.length a else j < env.length ∧ fp j a) = fp env.length := by funext a; rw [if_pos hj]
      rw [e]; exact h2
    · obtain ⟨u, g1, g2⟩ := r.sl j t (app_left hx)
      have hlt : j < env.length := (List.getElem?_eq_some_iff.mp hx).1
      have e : (fun a => if j = i then fp env.length a else j < env.length ∧ fp j a) = fp j := by funext a; simp [hj, hlt]
      refine ⟨u, ?_, by rw [e]; exact g2⟩
      rw [List.getElem?_append_left (by omega)] at g1
      rw [List.getElem?_set_ne (Ne.symm hj)]; exact g1
  · by_cases z1 : j = i <;> by_cases z2 : k = i
    · rw [z1, z2]
    · simp only [if_pos z1, if_neg z2] at h1 h2
      have := r.dis _ _ a h1 h2.2
      omega
    · simp only [if_neg z1, if_pos z2] at h1 h2
      have := r.dis _ _ a h2 h1.2
      omega
    · simp only [if_neg z1, if_neg z2] at h1 h2
      exact r.dis _ _ a h1.2 h2.2
  · by_cases z1 : j = i
    · simp only [if_pos z1] at h1
      exact r.out _ a h1
    · simp only [if_neg z1] at h1
      exact r.out _ a h1.2
theorem Sg.ns {F H : Hp} {a : Addr} (h : Sg F H) (hF : F a ≠ none) : Ns H a := by
  cases q : F a with
  | none => exact absurd q hF
  | some o => exact .mk' (h.p _ _ q) (h.n _ _ q)
end
section
variable {X : Cx} {W : WX} {e : Expr} {pos pos' : PySem.Pos} {x : Str} {S : SF} {ga : FA} {n : Nat}
def fCallRl (i : Nat) (S : SF) (f : FA) : FS := fun env => (f env).bind fun p => match S (p.2.map fun d => d.2) with
  | .ok (.nw true ds) => .ok (.nx (p.1.set i (some (.rl ds))))
  | .ex _ x => .ex p.1 x
  | _ => .bad
def allL (ds : List PyData) : Bool := ds.all fun d => match d with
  | .list es => decide (es.length ≤ 1000)
  | _ => false
def fRows (i j : Nat) : FS := fun env => match env[i]? with
  | some (some (.rl ds)) => grd (allL ds && (decide (ds.length ≤ 1000) && decide (j < env.length))) (.ok (.nx ((env.set i none).set j none)))
  | _ => .bad
end
end Dn
namespace Dn
open PySem PySem.Spec L2 A1 A2 A3
section
variable {β : Type} {h : HX β} {env e : Env} {n m : Bool} {d : PyData} {ds : List PyData} {f fa fb : FE} {v va vb : FV} {t u : FT} {a b : FA} {p q : FS}
@[simp] theorem cR_okR {r : R} {k : R → Rs β} : cR (.ok r) h k = k r := id rfl
def tkK (d : PyData) (k : List Key → Rs β) : Rs β := match tkey d with
  | some ks => k ks
  | none => .bad
def enK (d : PyData) (k : List (PyData × PyData) → Rs β) : Rs β := match entsT d with
  | some es => k es
  | none => .bad
@[simp ↓] theorem cE_get {k : Env → R → Rs β} : cE (fGet va vb) env h k = cV va env h fun e n d => enK d fun es => cV vb e h fun e m d' => tkK d' fun ks => k e (gGet es ks) := by
  unfold cE cV fGet
  rw [on_bind]
  refine congrArg _ (funext fun p => ?_)
  unfold enK
  dsimp only
  cases entsT p.2.2 with
  | none => rfl
  | some es =>
    dsimp only
    rw [on_bind]
    refine congrArg _ (funext fun p2 => ?_)
    unfold tkK
    dsimp only
    cases tkey p2.2.2 <;> rfl
def cDc (own : List Nat) (g : FG) (t : FT) (fk fv : FV) (xs : List Dv) (e : Env) (h : HX β) (k : Env → R → Rs β) : Rs β := grd (okOwn e own) (on (fDcL own g t fk fv xs (wipeE e own) []) h fun q => k (backE e q.1 own) (.sh false (dD q.2)))
@[simp ↓] theorem cE_dc {own : List Nat} {g : FG} {k : Env → R → Rs β} : cE (fDc own a g t va vb) env h k = cA a env h fun e xs => cDc own g t va vb xs e h k := by
  unfold cE cA cDc fDc
  rw [on_bind]
  refine congrArg _ (funext fun p => ?_)
  rw [on_grd, on_bind]; rfl
def cApp (ps qs : List Dv) (k : List Dv → Rs β) : Rs β := k (ps ++ qs)
def cLen (j : Nat) : List Dv → Nat → Rs β → Rs β
  | [], i, r => grd (decide (i = j)) r
  | _ :: ps, i, r => cLen j ps (i + 1) r
theorem cLen_eq {j : Nat} {r : Rs β} : ∀ (ps : List Dv) (i : Nat), cLen j ps i r = grd (decide (i + ps.length = j)) r
  | [], i => rfl
  | x :: ps, i => by
    show cLen j ps (i + 1) r = _
    rw [cLen_eq ps, List.length_cons, show i + 1 + ps.length = i + (ps.length + 1) by omega]
def rlK (r : Rs R) (i : Nat) (e : Env) (h : HX β) (k : Out → Rs β) : Rs β := match r with
  | .ok (.nw true ds) => cP i e (some (.rl ds)) fun e => k (.nx e)
  | .ex _ x => h e x
  | _ => .bad
@[simp ↓] theorem cO_callRl {i : Nat} {S : SF} {k : Out → Rs β} : cO (fCallRl i S a) env h k = cA a env h fun e ps => cD ps fun ds => rlK (S ds) i e h k := by
  unfold cO cA fCallRl
  rw [on_bind]
  refine congrArg _ (funext fun p => ?_)
  dsimp only
  rw [cD_eq]
  cases S (p.2.map fun d => d.2) with
  | bad => rfl
  | ex e x => rfl
  | ch m f => rfl
  | ok r => cases r with
    | sh n d => rfl
    | own i => rfl
    | nw n d => cases n <;> rfl
def roK (s : Option Sl) (i j : Nat) (e : Env) (k : Out → Rs β) : Rs β := match s with
  | some (.rl ds) => grd (allL ds && (decide (ds.length ≤ 1000) && decide (j < e.length))) (cP i e none fun e => cP j e none fun e => k (.nx e))
  | _ => .bad
@[simp ↓] theorem cO_rows {i j : Nat} {k : Out → Rs β} : cO (fRows i j) env h k = roK (env.getD i none) i j env k := by
  unfold cO fRows roK
  rw [List.getD_eq_getElem?_getD]
  cases q : env[i]? with
  | none => rfl
  | some s => cases s with
    | none => rfl
    | some s => cases s with
      | sh n d => rfl
      | ow n d => rfl
      | rg d => rfl
      | od d => rfl
      | on d => rfl
      | ou d => rfl
      | oz d kd es => rfl
      | oy d kd n es => rfl
      | rl d =>
        dsimp only [Option.getD_some]
        rw [on_grd]; rfl
abbrev cEn {α : Type} (c : α → PyData) (p : α × Nat) : PyData := .tuple [.int (p.2 : Nat), c p.1]
def euK (e : Env) (n : Bool) (d : PyData) (k : Env → List Dv → Rs β) : Rs β := match d with
  | .list ds => k e ((List.range ds.length).zipWith (fun i d => (n, .tuple [.int (i : Nat), d])) ds)
  | _ => .bad
@[simp ↓] theorem cA_enum {k : Env → List Dv → Rs β} : cA (fEnum v) env h k = cV v env h fun e n d => euK e n d k := by
  unfold cA cV fEnum
  rw [on_bind]
  refine congrArg _ (funext fun p => ?_)
  unfold euK
  obtain ⟨e, n, d⟩ := p
  cases d <;> rfl
theorem enum_wk {α : Type} {c : α → PyData} : ∀ (xs : List α) (j : Nat), (List.range' j xs.length).zipWith (fun (i : Nat) d => (n, PyData.tuple [.int (i : Nat), d])) (xs.map c) = wk n ((xs.zipIdx j).map (cEn c))
  | [], j => rfl
  | x :: xs, j => by
    rw [List.length_cons, List.range'_succ, List.map_cons, List.zipWith_cons_cons, enum_wk xs (j + 1), List.zipIdx_cons]; rfl
@[simp ↓] theorem euK_m {α : Type} {c : α → PyData} {xs : List α} {k : Env → List Dv → Rs β} : euK e n (.list (xs.map c)) k = k e (wk n ((xs.zipIdx).map (cEn c))) := by
  show k e _ = _
  rw [List.length_map, List.range_eq_range', enum_wk]
@[simp ↓] theorem cE_andV {k : Env → R → Rs β} : cE (fAndV v fb) env h k = cV v env h fun e _ d => cBo d fun b => ifK b (cE fb e h k) (k e (.sh true (.bool false))) := by
  unfold cE cV fAndV
  rw [on_bind]
  refine congrArg _ (funext fun p => ?_)
  obtain ⟨e, n, d⟩ := p
  cases d with
  | bool b => cases b <;> rfl
  | _ => rfl
@[simp ↓] theorem cE_orV {k : Env → R → Rs β} : cE (fOrV v fb) env h k = cV v env h fun e _ d => cBo d fun b => ifK b (k e (.sh true (.bool true))) (cE fb e h k) := by
  unfold cE cV fOrV
  rw [on_bind]
  refine congrArg _ (funext fun p => ?_)
  obtain ⟨e, n, d⟩ := p
  cases d with
  | bool b => cases b <;> rfl
  | _ => rfl
@[simp ↓] theorem cE_notV {k : Env → R → Rs β} : cE (fNotV v) env h k = cV v env h fun e _ d => cBo d fun b => k e (.sh true (.bool (!b))) := by
  unfold cE cV fNotV
  rw [on_bind]
  refine congrArg _ (funext fun p => ?_)
  obtain ⟨e, n, d⟩ := p
  cases d <;> rfl
@[simp ↓] theorem cR_all {bs : List Bool} {k : R → Rs β} : cR (bAll (n, .list (bs.map .bool))) h k = k (.sh true (.bool (bs.all id))) := by
  unfold cR bAll; dsimp only; rw [boolsOf_map]; rfl
@[simp ↓] theorem cR_any {bs : List Bool} {k : R → Rs β} : cR (bAny (n, .list (bs.map .bool))) h k = k (.sh true (.bool (bs.any id))) := by
  unfold cR bAny; dsimp only; rw [boolsOf_map]; rfl
def cOI (x : Option Int) : PyData := match x with
  | none => .none
  | some i => .int i
@[simp] theorem cOI_n : cOI none = .none := rfl
@[simp] theorem cOI_s {i : Int} : cOI (some i) = .int i := rfl
@[simp] theorem atom_oi {x : Option Int} : atom (cOI x) = true := by cases x <;> rfl
@[simp] theorem isNon_oi {x : Option Int} : isNon (cOI x) = x.isNone := by cases x <;> rfl
@[simp ↓ high] theorem cBo_oi {x : Option Int} {k : Bool → Rs β} : cBo (.bool (isNon (cOI x))) k = k x.isNone := by rw [isNon_oi]; rfl
@[simp ↓ high] theorem cBo_noi {x : Option Int} {k : Bool → Rs β} : cBo (.bool (!isNon (cOI x))) k = k (!x.isNone) := by rw [isNon_oi]; rfl
@[simp ↓ high] theorem cR_repN {i : Int} {k : R → Rs β} : cR (gRep (true, .list [.none]) (m, .int i)) h k = grd (small i) (grd (decide (i.toNat ≤ 1000000)) (k (.nw true ((List.replicate i.toNat (none : Option Int)).map cOI)))) := by
  have e1 : (List.replicate i.toNat ([.none] : List PyData)).flatten = (List.replicate i.toNat (none : Option Int)).map cOI := by rw [List.map_replicate, List.flatten_replicate_singleton]; rfl
  unfold cR gRep
  dsimp only
  rw [e1, on_grd, grd_a]
  simp only [List.length_cons, List.length_nil, Nat.zero_add, Nat.one_mul]
  rfl
theorem flat_oi (x : Option Int) : flatD (cOI x) = true := by cases x <;> rfl
theorem inF_non : ∀ xs : List (Option Int), inF .none (xs.map cOI) = xs.any (·.isNone)
  | [] => rfl
  | x :: xs => by
    have ih := inF_non xs
    unfold inF at ih ⊢
    rw [List.map_cons, List.any_cons, List.any_cons, ih]
    cases x <;> rfl
@[simp ↓] theorem cR_notInN {xs : List (Option Int)} {k : R → Rs β} : cR (gInN true (n, .none) (m, .list (xs.map cOI))) h k = k (.sh true (.bool (!xs.any (·.isNone)))) := by
  have e1 : (xs.map cOI).all flatD = true := by rw [List.all_map]; exact List.all_eq_true.mpr fun x _ => flat_oi x
  unfold cR gInN seqL
  dsimp only
  rw [e1, inF_non]
  rfl
end
section
variable {β : Type} {h : HX β} {n m : Bool} {d : PyData} {ds : List PyData} {r : Env} {kE : Env → R → Rs β} {kV : Env → Bool → PyData → Rs β} {kO : Out → Rs β} {xs : List (Option Int)} {j x : Int}
end
end Dn
namespace Dn
open PySem PySem.Spec L2 A1 A2 A3
def sortAl (ds : List PyData) : Bool := ds.all fun d => ds.all fun e => PySem.W.alike d e
def sortKd (ds : List PyData) : Bool := (ds.all fun d => match d with
  | .tuple (_ :: _) => true
  | _ => false) || ds.all fun d => match d with
  | .none => false
  | .tuple _ => false
  | _ => true
def sortOk (ds : List PyData) : Bool := sortAl ds && (sortKd ds && (PyData.canLayAll0 ds && (decide (ds.length ≤ 1000000) && ds.all fun d => decide (d.depth ≤ 60))))
def srt (ds : List PyData) : List PyData := ds.mergeSort (PySem.W.dataLe false id)
def bSorted (p : Dv) : Rs R := match seqL p.2 with
  | some ds => grd (sortOk ds) (.ok (.nw (p.1 || ds.all atom) (srt ds)))
  | none => .bad
theorem isA_atoms {K : PySem.W.Frag} {H0 F : Hp} {n m : Bool} : ∀ {xs : List V} {ds : List PyData}, IsA K H0 n F xs ds → ds.all atom = true → IsA K H0 m F xs ds
  | _, _, .nil, _ => .nil
  | _, _, .cons h t, z => by
    rw [List.all_cons, Bool.and_eq_true] at z
    exact .cons (h.atom z.1) (isA_atoms t z.2)
theorem isA_at {K : PySem.W.Frag} {H0 F : Hp} {n : Bool} {xs : List V} {ds : List PyData} (h : IsA K H0 n F xs ds) : IsA K H0 (n || ds.all atom) F xs ds := by
  cases q : ds.all atom with
  | true => exact isA_atoms h q
  | false => rw [Bool.or_false]; exact h
section
variable {X : Cx} {pins : List (Addr × Obj)} {σ : St} {H H0 F : Hp} {s : Shared} {n : Bool}
end
end Dn
namespace Dn
open PySem PySem.Spec L2 A1 A2 A3
section
variable {X : Cx} {pins : List (Addr × Obj)} {σ : St} {H : Hp} {s : Shared} {d : Addr} {o : Obj}
end
section
variable {K : PySem.W.Frag} {H0 F0 F H : Hp} {env : Env} {σ : St} {fp : Nat → Addr → Prop}
end
section
variable {X : Cx} {W : WX} {e a b ek ev : Expr} {f fa fb : FE} {pos pos' : PySem.Pos} {x : Str}
def isOd (e : Env) (i : Nat) : Bool := match e[i]? with
  | some (some (.od _)) => true
  | _ => false
def fPutD (i : Nat) (fk fv : FV) : FS := fun env => (fv env).bind fun v => grd (isOd v.1 i) <| (fk v.1).bind fun k => match k.1[i]? with
  | some (some (.od q)) => match tkey k.2.2 with
    | some key => grd (atom v.2.2 && decide (q.length < 1000000)) (.ok (.nx (k.1.set i (some (.od (putG q key v.2.2))))))
    | none => .bad
  | _ => .bad
end
section
variable {X : Cx} {W : WX} {e a b ek ev : Expr} {f fa fb : FE} {pos pos' : PySem.Pos} {x : Str}
end
end Dn
namespace Dn
open PySem PySem.Spec L2 A1 A2 A3
section
variable {X : Cx} {W : WX} {e a b ek ev : Expr} {f fa fb : FE} {pos pos' : PySem.Pos} {x : Str}
def fDispT (fk fv : FV) : FE := fun env => (noex (fk env)).bind fun k => match tkey k.2.2 with
  | some key => (noex (fv k.1)).bind fun v => grd (atom v.2.2) (.ok (v.1, .sh false (dL [(key, v.2.2)])))
  | none => .bad
def gInT (neg : Bool) : G2 := fun p q => match entsT q.2, tkey p.2 with
  | some kvs, some k => sc (.bool (if neg = true then (findT kvs k).isNone else (findT kvs k).isSome))
  | _, _ => .bad
end
section
variable {X : Cx} {W : WX} {e : Expr} {es : List Expr} {f : FE} {g : FA} {p : PySem.Pos}
def fStar (f : FV) (g : FA) : FA := fun env => (f env).bind fun p => match seqL p.2.2 with
  | some ds => (g p.1).bind fun q => .ok (q.1, ds.map (fun d => (p.2.1 || atom d, d)) ++ q.2)
  | none => .bad
end
end Dn
namespace Dn
open PySem PySem.Spec L2 A1 A2 A3
def entsL : PyData → Option (List (PyData × PyData))
  | .dict ((.int 1, .none) :: kvs) => some kvs
  | _ => none
def innerE (j : Nat) (env : Env) : Env := (env.map fun s => s.map fun s => .sh (atom s.data) s.data).set j (env.getD j none)
def onlyD (n j : Nat) (q : List (List Key × PyData)) : Env := (List.replicate n none).set j (some (.od q))
def odOf (e : Env) (j : Nat) : Option (List (List Key × PyData)) := match e[j]? with
  | some (some (.od q)) => some q
  | _ => none
def endW (n j : Nat) (o : Rs Out) : Rs Out := match o with
  | .ok (.nx e) => match odOf e j with
    | some q => grd (q.all (fun p => atom p.2) && decide (e.length = n)) (.ok (.nx (onlyD n j q)))
    | none => .bad
  | _ => .bad
def fItemsW (j : Nat) (fe : FV) (g : FG) (body : FS) : FS := fun env => (fe env).bind fun p => match entsL p.2.2 with
  | some kvs => match odOf p.1 j with
    | some _ => endW p.1.length j (fLoop g body (kvs.map fun kv => (false, .tuple [kv.1, kv.2])) (innerE j p.1))
    | none => .bad
  | none => .bad
section
variable {K : PySem.W.Frag} {H0 H1 F0 F F' H : Hp} {env : Env} {σ : St} {n : Bool}
end
section
variable {X : Cx} {W : WX} {e : Expr} {f : FE} {pos tpos apos cpos : PySem.Pos}
end
end Dn
namespace Dn
open PySem PySem.Spec L2 A1 A2 A3
def bTuple (p : Dv) : Rs R := match p.2 with
  | .list ds => .ok (.sh (p.1 || ds.all atom) (.tuple ds))
  | .tuple ds => .ok (.sh (p.1 || ds.all atom) (.tuple ds))
  | _ => .bad
theorem bTuple_no : ∀ p, Nx (bTuple p) := fun p => by
  unfold bTuple; (repeat' (first | exact trivial | (refine grd_no ?_) | (exact gIxD_no _ _) | (exact bRepr_no _) | split))
def bList (p : Dv) : Rs R := match seqL p.2 with
  | some ds => .ok (.nw (p.1 || ds.all atom) ds)
  | none => .bad
def intsOf : List PyData → Option (List Int)
  | [] => some []
  | .int i :: ds => (intsOf ds).map (i :: ·)
  | _ :: _ => none
def bSum (p : Dv) : Rs R := match p.2 with
  | .list ds => match intsOf ds with
    | some is => sc (.int is.sum)
    | none => .bad
  | _ => .bad
section
variable {X : Cx}
theorem call_tuple_ofZ : CallR X (.type "tuple") (fun xs H Q => ∃ p ys, xs = [.ref p] ∧ ((SqL X.K H p ys ∧ ∀ l o, H l = none → o.dict = none → Q (.ref l) (upd H l (tupZ o ys))) ∨ (SqT X.K H p ys ∧ Q (.ref p) H))) := by
  intro pins s σ H xs us Q I r h
  obtain ⟨p, ys, rfl, h⟩ := h
  obtain ⟨u, rfl, rx⟩ := vals1 r
  cases rx
  rcases h with ⟨hq, q⟩ | ⟨hq, q⟩
  · obtain ⟨its, r', pl, hz⟩ := I.list hq
    have hlen := r'.length
    refine call_tuple_list pl.isList (fun h' kp => ?_) (by simp only [List.size_toArray] <;> omega)
    have I1 : L2.Inv X pins σ H { s with heap := h' } := I.kept (t' := s.toks) kp
    exact ⟨.ref h'.objs.size, _, Inv.laidZ (t' := s.toks) I1 r' hz, rfl, q _ _ (I1.hok.fresh (Nat.le_refl _)) rfl⟩
  · obtain ⟨its, r', pl, hz⟩ := I.tuple hq
    exact call_tuple_same pl ⟨.ref p, H, I, rfl, q⟩
theorem cr_gtuple : CallR X (.type "tuple") (rGN X.K (g1 bTuple)) := callr1 fun pins s σ H x u Q H0 F n d I rx fz bs vx hp => by
  unfold bTuple at hp
  dsimp only at hp
  split at hp
  · rename_i ds
    obtain ⟨a, xs, rfl, h1, h2⟩ := vw_list fz vx
    exact call_tuple_ofZ pins s σ H [.ref a] [u] Q I (.cons rx .nil) ⟨a, xs, rfl, .inl ⟨h1, fun l ob hl hob => hp _ (upd F l (tupZ ob xs)) _ (Ext.alloc fz hl) (.tup (.new hob) ((isA_at h2).to (same_new (same_none fz hl))))⟩⟩
  · rename_i ds
    obtain ⟨a, xs, rfl, h0, h1, h2⟩ := vw_tup fz vx
    exact call_tuple_ofZ pins s σ H [.ref a] [u] Q I (.cons rx .nil) ⟨a, xs, rfl, .inr ⟨h1, hp _ F H (Ext.refl fz) (.tup h0 (isA_at h2))⟩⟩
  · exact hp.elim
def gInD (neg : Bool) : G2 := fun p q => match q.2 with
  | .list ds => grd (SeqAt.shaped p.2 && SeqAt.shaped (.list ds)) (sc (.bool (if neg = true then !(ds.any fun z => PyData.eqv z p.2) else ds.any fun z => PyData.eqv z p.2)))
  | _ => .bad
def maxOfI : List Int → Option Int
  | [] => none
  | x :: xs => some (PySem.W.maxOf x xs)
def bMaxD : List Dv → List Dv → Rs R
  | [p], [q] => match p.2 with
    | .tuple ds => match intsOf ds with
      | some is => match maxOfI is with
        | some m => sc (.int m)
        | none => match q.2 with
          | .int i => sc (.int i)
          | _ => .bad
      | none => .bad
    | _ => .bad
  | _, _ => .bad
end
section
variable {X : Cx} {W : WX} {e a b : Expr} {f fa fb : FE} {pos : PySem.Pos} {x : Str}
def fMaxD (fa fb : FV) : FE := fun env => (fa env).bind fun p => (fb p.1).bind fun q => (bMaxD [p.2] [q.2]).bind fun r => .ok (q.1, r)
def fGetL (fo fe : FV) : FE := fun env => (fo env).bind fun p => match entsL p.2.2 with
  | some kvs => (fe p.1).bind fun q => match tkey q.2.2 with
    | some k => .ok (q.1, gGet kvs k)
    | none => .bad
  | none => .bad
section
variable {k : Nat} {fA : Addr} {fd : FuncData} {ps : List Str} {S : SF} {p : PySem.Pos} {es : List Expr} {ga : FA} {dvs : List V} {dds : List PyData}
def fCallD (S : SF) (dds : List PyData) (f : FA) : FE := fun env => (f env).bind fun p => callR p.1 (S ((p.2.map fun d => d.2) ++ dds))
end
end
end Dn
namespace L2
open PySem
end L2
namespace Dn
open PySem PySem.Spec L2 A1 A2 A3
def fLcO (own vs1 : List Nat) (g : FG) (t : FT) (it1 : FA) (g1 : FG) (t1 : FT) (el : FV) : List Dv → Env → List Dv → Rs (Env × List Dv)
  | [], e, acc => .ok (e, acc)
  | x :: xs, e, acc => (noex (g x e)).bind fun e1 => (noex (t e1)).bind fun b => if b = true then (noex (it1 e1)).bind fun p => (fLcL vs1 g1 t1 el p.2 (wipeE p.1 vs1) acc).bind fun q => fLcO own vs1 g t it1 g1 t1 el xs (wipeE q.1 own) q.2 else fLcO own vs1 g t it1 g1 t1 el xs (wipeE e1 own) acc
def fLc2 (own vs1 : List Nat) (it : FA) (g : FG) (t : FT) (it1 : FA) (g1 : FG) (t1 : FT) (el : FV) : FE := fun env => (it env).bind fun p => grd (okOwn p.1 own) ((fLcO own vs1 g t it1 g1 t1 el p.2 (wipeE p.1 own) []).bind fun q => .ok (backE p.1 q.1 own, .nw (flags q.2) (datas q.2)))
section
variable {X : Cx} {W : WX} {elt tg iter tg1 iter1 : Expr} {ifs ifs1 : List Expr} {scope : Scope} {own : List (Str × Nat)} {vs1 : List Nat} {pos : PySem.Pos} {is is1 : List Nat} {fi fi1 : FA} {g g1 : FG} {t t1 : FT} {fe : FE}
end
def gNeg : G1 := fun p => match p.2 with
  | .int i => sc (.int (-i))
  | _ => .bad
theorem gNeg_no : ∀ p, Nx (gNeg p) := fun p => by
  unfold gNeg; (repeat' (first | exact trivial | (refine grd_no ?_) | (exact gIxD_no _ _) | (exact bRepr_no _) | split))
theorem un_gNeg {X : Cx} : UnR X (unaryOp .USub) (rG1 X.K gNeg) := fun pins s σ H x v Q I rx ⟨H0, F, p, fz, bs, vx, hp⟩ => by
  obtain ⟨n, d⟩ := p
  unfold gNeg at hp
  dsimp only at hp
  split at hp
  · have := vw_int vx
    subst this
    exact un_neg pins s σ H _ v Q I rx ⟨_, rfl, sc_ok hp fz (.int _)⟩
  · exact hp.elim
end Dn
namespace Dn
open PySem PySem.Spec L2 A1 A2 A3
abbrev cTp (o : List Int) : PyData := .tuple (o.map .int)
abbrev kI (o : List Int) : List Key := o.map .inl
abbrev cAcc (acc : List (List Int × Int)) : List (List Key × PyData) := acc.map fun p => (kI p.1, PyData.int p.2)
theorem kI_inj {a b : List Int} (h : kI a = kI b) : a = b := by
  induction a generalizing b with
  | nil => cases b with
    | nil => rfl
    | cons => cases h
  | cons x a ih => cases b with
    | nil => cases h
    | cons y b =>
      obtain ⟨h1, h2⟩ := List.cons.inj h
      rw [Sum.inl.inj h1, ih h2]
theorem kI_iff {a b : List Int} : (kI a = kI b) ↔ a = b := ⟨kI_inj, fun h => by rw [h]⟩
theorem encT_kI (o : List Int) : encT (kI o) = cTp o := by
  unfold encT; rw [List.map_map]; rfl
theorem tkey_kI (o : List Int) : tkey (cTp o) = some (kI o) := by rw [← encT_kI, tkey_enc]
theorem cAcc_cons (p : List Int × Int) (acc : List (List Int × Int)) : cAcc (p :: acc) = (kI p.1, PyData.int p.2) :: cAcc acc := rfl
theorem valG_acc (o : List Int) : ∀ acc : List (List Int × Int), valG (cAcc acc) (kI o) = (valG acc o).map .int
  | [] => rfl
  | p :: acc => by
    have ih := valG_acc o acc
    unfold valG at ih ⊢
    by_cases z : p.1 = o
    · rw [cAcc_cons, List.find?_cons_of_pos (by simpa using kI_iff.mpr z), List.find?_cons_of_pos (by simpa using z)]; rfl
    · rw [cAcc_cons, List.find?_cons_of_neg (by simpa using fun y => z (kI_inj y)), List.find?_cons_of_neg (by simpa using z)]; exact ih
def sortI (o : List Int) : List Int := o.mergeSort (fun a b => decide (a ≤ b))
theorem srt_ints (o : List Int) : srt (o.map .int) = (sortI o).map .int := by
  unfold srt sortI
  refine (List.map_mergeSort fun a _ b _ => ?_).symm
  have := congrFun (congrFun (PySem.W.dataLe_int (fun x : Int => x)) a) b
  exact this.symm
theorem lay0_ints : ∀ o : List Int, PyData.canLayAll0 (o.map .int) = true
  | [] => rfl
  | x :: o => by
    rw [List.map_cons, PyData.canLayAll0, lay0_ints o]; rfl
theorem sortOk_ints {o : List Int} (h : o.length ≤ 1000000) : sortOk (o.map .int) = true := by
  unfold sortOk sortAl sortKd
  have h1 : ((o.map PyData.int).all fun d => (o.map PyData.int).all fun e => PySem.W.alike d e) = true := by
    simp [List.all_map, PySem.W.alike]
  have h2 : ((o.map PyData.int).all fun d => decide (d.depth ≤ 60)) = true := by
    simp [List.all_map, PyData.depth]
  rw [h1, lay0_ints, h2, List.length_map, decide_eq_true h]
  simp [List.all_map]
theorem intsOf_ints : ∀ o : List Int, intsOf (o.map .int) = some o
  | [] => rfl
  | x :: o => by
    rw [List.map_cons, intsOf, intsOf_ints o]; rfl
theorem cut_lo {α : Type} {xs : List α} {i : Int} (h : 0 ≤ i) : cutD xs none (some i) = xs.take i.toNat := by
  unfold cutD
  rw [HT.sIx_none, show i = ((i.toNat : Nat) : Int) by omega, HT.sIx_nat, Int.toNat_natCast, List.drop_zero, Nat.sub_zero]
  by_cases z : i.toNat ≤ xs.length
  · rw [Nat.min_eq_left z]
  · rw [Nat.min_eq_right (by omega), List.take_length, List.take_of_length_le (by omega)]
theorem cut_hi {α : Type} {xs : List α} {i : Int} (h : 0 ≤ i) : cutD xs (some i) none = xs.drop i.toNat := by
  unfold cutD
  rw [HT.sIx_none, show i = ((i.toNat : Nat) : Int) by omega, HT.sIx_nat, Int.toNat_natCast]
  by_cases z : i.toNat ≤ xs.length
  · rw [Nat.min_eq_left z, List.take_of_length_le (by simp)]
  · rw [Nat.min_eq_right (by omega), List.drop_length, List.drop_of_length_le (by omega)]; simp
def maxD (o : List Int) (i : Int) : Int := (maxOfI o).getD i
theorem atom_ints (o : List Int) : (o.map PyData.int).all atom = true := by rw [List.all_map]; exact List.all_eq_true.mpr fun _ _ => rfl
section
variable {β : Type} {h : HX β} {env e : Env} {n m : Bool} {d : PyData} {ds : List PyData} {f fa fb : FE} {v va vb : FV} {t u : FT} {a b : FA} {p q : FS} {o o' : List Int} {i j : Int}
def sqK (d : PyData) (k : List PyData → Rs β) : Rs β := match seqL d with
  | some ds => k ds
  | none => .bad
def stA (n : Bool) (ds : List PyData) (ps : List Dv) : List Dv := ds.map (fun d => (n || atom d, d)) ++ ps
@[simp ↓] theorem cA_star {k : Env → List Dv → Rs β} : cA (fStar v a) env h k = cV v env h fun e n d => sqK d fun ds => cA a e h fun e ps => k e (stA n ds ps) := by
  unfold cA cV fStar
  rw [on_bind]
  refine congrArg _ (funext fun p => ?_)
  unfold sqK
  dsimp only
  cases seqL p.2.2 with
  | none => rfl
  | some ds =>
    dsimp only
    rw [on_bind]; rfl
@[simp ↓ high] theorem cR_notInT {acc : List (List Int × Int)} {k : R → Rs β} : cR (gInT true (n, cTp o) (m, dD (cAcc acc))) h k = k (.sh true (.bool (valG acc o).isNone)) := by
  have e1 : entsT (dD (cAcc acc)) = some ((cAcc acc).map fun p => (encT p.1, p.2)) := rfl
  unfold cR gInT
  dsimp only
  rw [e1, tkey_kI]
  dsimp only
  rw [if_pos rfl, findT_enc, valG_acc]
  cases valG acc o <;> rfl
@[simp ↓ high] theorem cR_inT {acc : List (List Int × Int)} {k : R → Rs β} : cR (gInT false (n, cTp o) (m, dD (cAcc acc))) h k = k (.sh true (.bool (valG acc o).isSome)) := by
  have e1 : entsT (dD (cAcc acc)) = some ((cAcc acc).map fun p => (encT p.1, p.2)) := rfl
  unfold cR gInT
  dsimp only
  rw [e1, tkey_kI]
  dsimp only
  rw [if_neg (by decide), findT_enc, valG_acc]
  cases valG acc o <;> rfl
def pdK (i : Nat) (e : Env) (d : PyData) (dk : PyData) (k : Out → Rs β) : Rs β := match e[i]? with
  | some (some (.od q)) => match tkey dk with
    | some key => grd (atom d && decide (q.length < 1000000)) (k (.nx (e.set i (some (.od (putG q key d))))))
    | none => .bad
  | _ => .bad
@[simp ↓] theorem cO_putD {i : Nat} {k : Out → Rs β} : cO (fPutD i va vb) env h k = cV vb env h fun e _ d => grd (isOd e i) (cV va e h fun e _ dk => pdK i e d dk k) := by
  unfold cO cV fPutD
  rw [on_bind]
  refine congrArg _ (funext fun p => ?_)
  rw [on_grd, on_bind]
  refine congrArg _ (congrArg _ (funext fun p2 => ?_))
  obtain ⟨e2, m2, dk⟩ := p2
  show on (match e2[i]? with
    | some (some (.od q)) => match tkey dk with
      | some key => grd (atom p.2.2 && decide (q.length < 1000000)) (.ok (.nx (e2.set i (some (.od (putG q key p.2.2))))))
      | none => .bad
    | _ => .bad) h k = pdK i e2 p.2.2 dk k
  unfold pdK
  cases e2[i]? with
  | none => rfl
  | some s => cases s with
    | none => rfl
    | some s => cases s with
      | od q =>
        dsimp only
        cases tkey dk with
        | none => rfl
        | some key => exact on_grd _ _ _ _
      | _ => rfl
@[simp ↓] theorem cE_dispT {k : Env → R → Rs β} : cE (fDispT va vb) env h k = cV va env (fun _ _ => .bad) fun e _ d => tkK d fun key => cV vb e (fun _ _ => .bad) fun e _ d2 => grd (atom d2) (k e (.sh false (dL [(key, d2)]))) := by
  unfold cE cV fDispT
  rw [noex_on]
  have on2 : ∀ {α γ : Type} (r : Rs α) (q : α → Rs γ) (k : γ → Rs β), on (on r (fun _ _ => .bad) q) h k = on r (fun _ _ => .bad) fun a => on (q a) h k := fun r q k => by
    induction r with
    | ch m f ih => exact congrArg (Rs.ch m) (funext ih)
    | _ => rfl
  rw [on2]
  refine congrArg _ (funext fun p => ?_)
  unfold tkK
  dsimp only
  cases tkey p.2.2 with
  | none => rfl
  | some key =>
    dsimp only
    rw [noex_on, on2]
    refine congrArg _ (funext fun p2 => ?_)
    rw [on_grd]; rfl
def elK (d : PyData) (k : List (PyData × PyData) → Rs β) : Rs β := match entsL d with
  | some es => k es
  | none => .bad
@[simp ↓] theorem cE_getL {k : Env → R → Rs β} : cE (fGetL va vb) env h k = cV va env h fun e n d => elK d fun es => cV vb e h fun e m d' => tkK d' fun ks => k e (gGet es ks) := by
  unfold cE cV fGetL
  rw [on_bind]
  refine congrArg _ (funext fun p => ?_)
  unfold elK
  dsimp only
  cases entsL p.2.2 with
  | none => rfl
  | some es =>
    dsimp only
    rw [on_bind]
    refine congrArg _ (funext fun p2 => ?_)
    unfold tkK
    dsimp only
    cases tkey p2.2.2 <;> rfl
def iwK (j : Nat) (g : FG) (body : FS) (e : Env) (d : PyData) (h : HX β) (k : Out → Rs β) : Rs β := on (match entsL d with
  | some kvs => match odOf e j with
    | some _ => endW e.length j (fLoop g body (kvs.map fun kv => (false, .tuple [kv.1, kv.2])) (innerE j e))
    | none => .bad
  | none => .bad) h k
@[simp ↓] theorem cO_items {j : Nat} {g : FG} {k : Out → Rs β} : cO (fItemsW j v g p) env h k = cV v env h fun e _ d => iwK j g p e d h k := by
  unfold cO cV fItemsW
  rw [on_bind]; rfl
@[simp ↓ high] theorem cR_sortedT {k : R → Rs β} (z : o.length ≤ 1000000) : cR (bSorted (n, cTp o)) h k = k (.nw true ((sortI o).map .int)) := by
  unfold cR bSorted seqL
  dsimp only
  rw [sortOk_ints z, atom_ints, srt_ints, Bool.or_true]; rfl
@[simp ↓ high] theorem cR_sortedL {k : R → Rs β} (z : o.length ≤ 1000000) : cR (bSorted (n, .list (o.map .int))) h k = k (.nw true ((sortI o).map .int)) := by
  unfold cR bSorted seqL
  dsimp only
  rw [sortOk_ints z, atom_ints, srt_ints, Bool.or_true]; rfl
@[simp ↓ high] theorem cR_tupleL {k : R → Rs β} : cR (bTuple (n, .list (o.map .int))) h k = k (.sh true (cTp o)) := by
  unfold cR bTuple
  dsimp only
  rw [atom_ints, Bool.or_true]; rfl
@[simp ↓ high] theorem cR_listT {k : R → Rs β} : cR (bList (n, cTp o)) h k = k (.nw true (o.map .int)) := by
  unfold cR bList seqL
  dsimp only
  rw [atom_ints, Bool.or_true]; rfl
@[simp ↓ high] theorem cR_sum {k : R → Rs β} : cR (bSum (n, .list (o.map .int))) h k = k (.sh true (.int o.sum)) := by
  unfold cR bSum
  dsimp only
  rw [intsOf_ints]; rfl
@[simp ↓] theorem cE_maxD {k : Env → R → Rs β} : cE (fMaxD va vb) env h k = cV va env h fun e n d => cV vb e h fun e m d' => cR (bMaxD [(n, d)] [(m, d')]) h fun r => k e r := by
  unfold cE cV cR fMaxD
  rw [on_bind]
  refine congrArg _ (funext fun p => ?_)
  rw [on_bind]
  refine congrArg _ (funext fun q => ?_)
  rw [on_bind]; rfl
@[simp ↓ high] theorem cR_maxD {k : R → Rs β} : cR (bMaxD [(n, cTp o)] [(m, .int i)]) h k = k (.sh true (.int (maxD o i))) := by
  unfold cR bMaxD maxD
  dsimp only
  rw [intsOf_ints]
  dsimp only
  cases maxOfI o <;> rfl
@[simp ↓] theorem cE_callD {S : SF} {dds : List PyData} {k : Env → R → Rs β} : cE (fCallD S dds a) env h k = cA a env h fun e ps => cD ps fun ds => cC (S (ds ++ dds)) e h k := by
  unfold cE cA fCallD
  rw [on_bind]
  refine congrArg _ (funext fun p => ?_)
  dsimp only
  rw [cD_eq]; rfl
@[simp ↓] theorem cR_neg {k : R → Rs β} : cR (gNeg (n, .int i)) h k = k (.sh true (.int (-i))) := id rfl
@[simp ↓ 20000] theorem cR_addT1 {k : R → Rs β} : cR (gAdd (n, cTp o) (m, .tuple [.int i])) h k = grd (decide (o.length + 1 ≤ 1000000)) (k (.sh (n && m) (cTp (o ++ [i])))) := by
  rw [cR_addT, List.length_map]
  show grd _ (k (.sh (n && m) (.tuple (o.map .int ++ [i].map .int)))) = _
  rw [← List.map_append]; rfl
@[simp ↓ 20000] theorem cR_add1L {k : R → Rs β} : cR (gAdd (n, .list [.int i]) (m, .list (o.map .int))) h k = grd (decide (o.length + 1 ≤ 1000000)) (k (.nw (n && m) ((i :: o).map .int))) := by
  rw [cR_addL, List.length_map, List.length_singleton, Nat.add_comm]; rfl
end
section
variable {β : Type} {h : HX β} {env e e1 : Env} {n m : Bool} {d : PyData} {own vs1 : List Nat} {g g1 : FG} {t t1 : FT} {it it1 : FA} {el : FV}
def cLc2 (own vs1 : List Nat) (g : FG) (t : FT) (it1 : FA) (g1 : FG) (t1 : FT) (el : FV) (xs : List Dv) (e : Env) (h : HX β) (k : Env → R → Rs β) : Rs β := grd (okOwn e own) (on (fLcO own vs1 g t it1 g1 t1 el xs (wipeE e own) []) h fun q => k (backE e q.1 own) (.nw (flags q.2) (datas q.2)))
@[simp ↓] theorem cE_lc2 {k : Env → R → Rs β} : cE (fLc2 own vs1 it g t it1 g1 t1 el) env h k = cA it env h fun e xs => cLc2 own vs1 g t it1 g1 t1 el xs e h k := by
  unfold cE cA cLc2 fLc2
  rw [on_bind]
  refine congrArg _ (funext fun p => ?_)
  rw [on_grd, on_bind]; rfl
end
section
variable {β : Type} {h : HX β} {n m : Bool} {d : PyData} {ds : List PyData} {r : Env} {kE : Env → R → Rs β} {kV : Env → Bool → PyData → Rs β} {kO : Out → Rs β} {q : List (List Key × PyData)} {acc : List (List Int × Int)} {o : List Int} {x : Int}
end
end Dn
namespace Dn
open PySem PySem.Spec L2 A1 A2 A3
section
variable {X : Cx} {W : WX} {e a b ek ev : Expr} {f fa fb : FE} {pos pos' : PySem.Pos} {x : Str}
theorem pe_newN : PE X (.Dict [] [] pos) (fun _ H Q => ∀ p, H p = none → Q (.ref p) (upd H p (dN p []))) := ⟨fun pins s σ H Q I h => by
  have hn := I.hok.fresh (Nat.le_refl s.heap.objs.size)
  have hb : (s.heap.objs.size == sysModules) = false := beq_eq_false_iff_ne.mpr (Ne.symm (Nat.ne_of_lt I.big))
  exact wpAny_Dict_empty ⟨.ref s.heap.objs.size, _, I.laid (a := s.heap.objs.size) (o := dN s.heap.objs.size []) (t' := s.toks) (fun _ _ q => Heap.get?_push_of_some _ q) (Nat.le_refl _) (dN_ok (H := H) (fun x hx => nomatch hx) (Nat.zero_le _) hb (Heap.DictOfH.new s.heap)), rfl, h _ hn⟩⟩
end
def putK (ks : List PyData) (d : PyData) : List PyData := if (ks.any fun e => decide (nkey e = nkey d)) = true then ks else ks ++ [d]
section
variable {K : PySem.W.Frag} {H0 F F0 H : Hp} {env : Env} {σ : St}
theorem KsN.keys (fz : Sg F H) : ∀ {xs : List NX} {ks : List PyData}, KsN K H0 F xs ks → (∀ d ∈ ks, ∀ k, nkey d = some k → k.depth ≤ 8) → KeysN H xs
  | _, _, .nil, _ => fun x hx => nomatch hx
  | _, _, .cons a h t, hd => fun x hx => by
    rcases List.mem_cons.mp hx with rfl | hx
    · exact ⟨hd _ List.mem_cons_self _ a, is_nk fz h a⟩
    · exact t.keys fz (fun d hd2 => hd d (List.mem_cons_of_mem _ hd2)) x hx
theorem KsN.len : ∀ {xs : List NX} {ks : List PyData}, KsN K H0 F xs ks → xs.length = ks.length
  | _, _, .nil => rfl
  | _, _, .cons _ _ t => by rw [List.length_cons, List.length_cons, t.len]
theorem KsN.app : ∀ {xs : List NX} {ks : List PyData} {x : NX} {d : PyData}, KsN K H0 F xs ks → nkey d = some x.1 → Is K H0 false F (.ref x.2.1) d → KsN K H0 F (xs ++ [x]) (ks ++ [d])
  | _, _, _, _, .nil, a, h => .cons a h .nil
  | _, _, _, _, .cons a1 h1 t, a, h => .cons a1 h1 (t.app a h)
theorem KsN.mapPut {k : NestedKey} {u : Value} : ∀ {xs : List NX} {ks : List PyData}, KsN K H0 F xs ks → KsN K H0 F (xs.map (putAt k u)) ks
  | _, _, .nil => .nil
  | _, _, .cons (x := x) a h t => by
    rw [List.map_cons]
    refine .cons ?_ ?_ t.mapPut
    · unfold putAt; split <;> exact a
    · unfold putAt; split <;> exact h
theorem KsN.any {k : NestedKey} : ∀ {xs : List NX} {ks : List PyData}, KsN K H0 F xs ks → (atKey xs k).isSome = ks.any fun e => decide (nkey e = some k)
  | _, _, .nil => rfl
  | _, _, .cons (x := x) (xs := xs) (ks := ks) (d := d) a h t => by
    have ih := t.any (k := k)
    unfold atKey at ih ⊢
    rw [List.any_cons, a]
    by_cases z : x.1 = k
    · rw [List.find?_cons_of_pos (by simpa using z), decide_eq_true (by rw [z])]; rfl
    · rw [List.find?_cons_of_neg (by simpa using z), decide_eq_false (fun y => z (Option.some.inj y)), Bool.false_or]; exact ih
theorem KsN.put {xs : List NX} {ks : List PyData} {k : NestedKey} {b : Addr} {u : Value} {d : PyData} (h : KsN K H0 F xs ks) (hk : nkey d = some k) (hi : Is K H0 false F (.ref b) d) : KsN K H0 F (storedH xs k b u) (putK ks d) := by
  unfold storedH putK
  rw [h.any, hk]
  split
  · exact h.mapPut
  · exact h.app hk hi
end
section
variable {X : Cx} {W : WX} {e a b ek ev : Expr} {f fa fb : FE} {pos pos' : PySem.Pos} {x : Str}
def isOn (e : Env) (i : Nat) : Bool := match e[i]? with
  | some (some (.on _)) => true
  | _ => false
def keyOk (ks : List PyData) (d : PyData) : Bool := match nkey d with
  | some (.tup k) => decide ((NestedKey.tup k).depth ≤ 8) && (decide (ks.length < 1000000) && ks.all fun e => match nkey e with
    | some k => decide (k.depth ≤ 8)
    | none => true)
  | _ => false
def fPutN (i : Nat) (fk fv : FV) : FS := fun env => (fv env).bind fun v => grd (isOn v.1 i) <| (fk v.1).bind fun k => match k.1[i]? with
  | some (some (.on ks)) => grd (keyOk ks k.2.2) (.ok (.nx (k.1.set i (some (.on (putK ks k.2.2))))))
  | _ => .bad
end
end Dn
namespace Dn
open PySem PySem.Spec L2 A1 A2 A3
def fEnumT (f : FV) : FA := fun env => (f env).bind fun p => match p.2.2 with
  | .tuple ds => .ok (p.1, (List.range ds.length).zipWith (fun i d => (p.2.1, .tuple [.int (i : Nat), d])) ds)
  | _ => .bad
end Dn
namespace Dn
open PySem PySem.Spec L2 A1 A2 A3
theorem mem_of_look {α : Type} : ∀ {l : List (Str × α)} {n : Str} {c : α}, l.lookup n = some c → (n, c) ∈ l
  | [], _, _, h => nomatch h
  | (k, v) :: r, n, c, h => by
    rw [List.lookup_cons] at h
    cases q : n == k with
    | true =>
      rw [q] at h
      cases h
      rw [eq_of_beq q]
      exact List.mem_cons_self
    | false =>
      rw [q] at h
      exact List.mem_cons_of_mem _ (mem_of_look h)
theorem clo_look {cells : List (Str × Addr)} {names : List (Str × NameKind)} {y : Str} {c : Addr} (h : names.lookup y = some .free) (hc : cells.lookup y = some c) : (cloFrom cells names []).lookup y = some c := by
  have h1 : (y, NameKind.free) ∈ names := mem_of_look h
  obtain ⟨c2, h2⟩ := mem_lookup (cloFrom_has (cells := cells) (acc := []) h1)
  rw [h2]
  rcases cloFrom_mem (mem_of_look h2) with z | ⟨_, z⟩
  · cases z
  · rw [z, hc]; rfl
section
variable {X : Cx} {pins : List (Addr × Obj)} {σ : St} {H : Hp} {s : Shared} {P : Addr} {h' : Heap} {g' : Array GenState} {d' : Drawn} {t' : Nat}
theorem hok_grow (ok : HOk X.prog X.w H s.heap) (hP : H P = some (tabE P)) (k : ∀ b o, b ≠ P → s.heap.get? b = some o → h'.get? b = some o) (hm : TabPhi P h') : HOk X.prog X.w H h' := fun b u e => by
  by_cases z : b = P
  · subst z
    rw [hP] at e
    cases e
    obtain ⟨ps, q, t⟩ := hm
    exact ⟨⟨ps, q, t⟩, ⟨_, q⟩, fun _ _ ⟨ps, q, t⟩ keep => ⟨ps, keep _ q, t⟩⟩
  · refine (ok b u e).stay (fun d v hd q => k d v ?_ q) (fun _ q => q) fun _ _ q => q
    rcases hd with y | y
    · rw [y]; exact z
    · intro y2; rw [y2, hP] at y; cases y
theorem inv_grow (I : L2.Inv X pins σ H s) (hP : H P = some (tabE P)) (k : ∀ b o, b ≠ P → s.heap.get? b = some o → h'.get? b = some o) (hm : TabPhi P h') (hg : PyProof.Rows.AllBare g') :
    L2.Inv X pins σ H { s with heap := h', gens := g', drawn := d', toks := t' } := by
  have nP : ∀ b, H b = none → b ≠ P := fun b e z => by rw [z, hP] at e; cases e
  refine I.step (g' := g') (d' := d') (ch := []) (fun b hb => absurd hb (by simp)) (fun b o _ _ _ e n => k b o (nP b n) e) (fun b o _ _ _ e n => ⟨o.slots, k b o (nP b n) e⟩)
    (fun _ _ _ _ n => n) (fun b o _ e => ?_) (fun _ _ e => e) (fun _ _ _ e => e) (fun b qs e => ⟨#[], by rw [e]; simp⟩) (fun m hn => ?_) (hok_grow I.hok hP k hm) hg
  · by_cases z : b = P
    · obtain ⟨ps, q, _⟩ := hm
      exact ⟨_, by rw [z]; exact q⟩
    · exact ⟨o, k b o z e⟩
  · obtain ⟨ob, es, ep, ho, r⟩ := hn
    exact ⟨ob, es, ep, k _ ob (nP _ I.free) ho, r⟩
def ReadyQ (X : Cx) (pins : List (Addr × Obj)) (σ : St) (H : Hp) (n : Nat) (tr : Nat → Bool) (g : Addr) (s5 : Shared) : Prop :=
  ∃ (fp wr : List Addr) (G : Array GenState → Array GenState → Prop) (F : Nat → Value → Prop) (S : Nat → Shared → Prop),
    WalksS X.prog X.w X.A.in1 g fp wr G n F S ∧ S 0 s5 ∧ TruthOf X.prog X.w X.A.in1 F tr ∧ ∀ s', Moved wr G s5 s' → L2.Inv X pins σ H s'
structure GQ (outer scope : Scope) (x : Str) : Prop where
  kind : scope.kind = .function
  co : scope.isCoroutine = false
  cell : ∀ y ∈ scope.names, y.2 ≠ .cell
  dot : scope.names.lookup (".0" : Str) = some NameKind.local
  loc : scope.names.lookup x = some .local
  free : ∀ y ∈ scope.names, y.2 = .free → outer.names.lookup y.1 = some .cell ∨ outer.names.lookup y.1 = some .free
theorem keeps_same (s : Shared) (h2 : Heap) (k : Nat) (hk : ∀ b o, s.heap.get? b = some o → h2.get? b = some o) : Keeps s { s with heap := h2, toks := k } := ⟨h2, k, rfl, hk⟩
end
end Dn
namespace Dn
open PySem PySem.Spec L2 A1 A2 A3
def Lk (H : Hp) (d : Addr) (o : Obj) (ks vs : List V) : Prop :=
  (∃ xs : List NX, H d = some (.frz o (dN d xs)) ∧ ks = xs.map (fun x => V.ref x.2.1) ∧ Vals vs (xs.map fun x => x.2.2)) ∨ ∃ kvs : List (Key × V), H d = some (.frz o (.dK kvs)) ∧ ks = kvs.map (fun p => kV p.1) ∧ vs = kvs.map (·.2)
def dictEnts : PyData → Option (List (PyData × PyData))
  | .dict ((.int 6, .none) :: q) => some q
  | .dict ((.int 4, .none) :: q) => some q
  | _ => none
section
variable {X : Cx} {pins : List (Addr × Obj)} {σ : St} {H H' : Hp} {s : Shared} {d : Addr} {o : Obj} {ks vs : List V}
theorem Lk.to (h : Lk H d o ks vs) (e : ∀ b u, H b = some u → spc u = false → H' b = some u) : Lk H' d o ks vs := by
  rcases h with ⟨xs, h1, h2⟩ | ⟨kvs, h1, h2⟩
  · exact .inl ⟨xs, e _ _ h1 rfl, h2⟩
  · exact .inr ⟨kvs, e _ _ h1 rfl, h2⟩
end
def fValues (f : FV) : FA := fun env => (f env).bind fun p => match dictEnts p.2.2 with
  | some q => .ok (p.1, q.map fun e => (p.2.1, e.2))
  | none => .bad
def fItems (f : FV) : FA := fun env => (f env).bind fun p => match dictEnts p.2.2 with
  | some q => .ok (p.1, q.map fun e => (p.2.1, .tuple [e.1, e.2]))
  | none => .bad
section
variable {K : PySem.W.Frag} {H0 F H : Hp} {n : Bool} {d : Addr} {o : Obj} {ks vs : List V}
end
section
variable {X : Cx} {W : WX} {e : Expr} {f : FE} {tg : Expr} {apos cpos : PySem.Pos}
end
end Dn
namespace Dn
open PySem PySem.Spec L2 A1 A2 A3
section
variable {X : Cx} {W : WX} {σ : St} {H : Hp} {P c : Addr} {elt iter : Expr} {x y : Str} {px p pos gpos p1 p2 p3 : PySem.Pos} {scope : Scope} {te : TE} {k : Nat}
def allR (tr : Nat → Bool) (n : Nat) : Bool := (List.range n).all tr
end
def keysU : List PyData → Option (List NestedKey)
  | [] => some []
  | d :: ds => match keyU d, keysU ds with
    | some k, some ks => some (k :: ks)
    | _, _ => none
def fGenIn (ag : List Bool → Bool) (fi fd : FV) : FE := fun env => (fi env).bind fun p => match p.2.2 with
  | .list ds => (fd p.1).bind fun q => (match entsU q.2.2, keysU ds with
    | some es, some ks => .ok (p.1, .sh true (.bool (ag (ks.map fun k => (lookU es k).isSome))))
    | _, _ => .bad)
  | _ => .bad
theorem gen_all (bs : List Bool) : allR (fun i => bs.getD i false) bs.length = bs.all id := by
  unfold allR
  rw [Bool.eq_iff_iff, List.all_eq_true, List.all_eq_true]
  constructor
  · intro h b hb
    obtain ⟨i, hi, rfl⟩ := List.getElem_of_mem hb
    have := h i (List.mem_range.mpr hi)
    rwa [List.getD_eq_getElem?_getD, List.getElem?_eq_getElem hi] at this
  · intro h i hi
    have hi := List.mem_range.mp hi
    rw [List.getD_eq_getElem?_getD, List.getElem?_eq_getElem hi]
    exact h _ (List.getElem_mem hi)
section
variable {X : Cx} {W : WX} {P c : Addr} {iter : Expr} {x y nm : Str} {px p pos gpos p1 p2 p3 : PySem.Pos} {scope : Scope} {k j : Nat} {fi : FE}
end
end Dn
namespace Dn
open PySem PySem.Spec L2 A1 A2 A3
def putB {α : Type} [DecidableEq α] (f : PyData → Option α) (q : List (PyData × PyData)) (dk dv : PyData) : List (PyData × PyData) :=
  if (q.any fun e => decide (f e.1 = f dk)) = true then q.map fun e => if f e.1 = f dk then (e.1, dv) else e else q ++ [(dk, dv)]
section
variable {K : PySem.W.Frag} {H0 F F0 H : Hp} {env : Env} {σ : St}
theorem en_any {k : NestedKey} {dk : PyData} (hk : nkey dk = some k) : ∀ {xs : List NX} {q : List (PyData × PyData)}, (xs.map fun x => some x.1) = (q.map (·.1)).map nkey → (atKey xs k).isSome = q.any fun e => decide (nkey e.1 = nkey dk)
  | [], [], _ => rfl
  | [], _ :: _, h => by cases h
  | _ :: _, [], h => by cases h
  | x :: xs, e :: q, h => by
    rw [List.map_cons, List.map_cons, List.map_cons] at h
    obtain ⟨e1, e2⟩ := List.cons.inj h
    have ih := en_any hk e2
    unfold atKey at ih ⊢
    rw [List.any_cons, ← e1, hk]
    by_cases z : x.1 = k
    · rw [List.find?_cons_of_pos (by simpa using z), decide_eq_true (by rw [z])]; rfl
    · rw [show ((x :: xs).find? fun x => decide (x.1 = k)) = xs.find? fun x => decide (x.1 = k) from List.find?_cons_of_neg (by simpa using z), decide_eq_false (fun y => z (Option.some.inj y)), Bool.false_or, ih, hk]
theorem en_map {k : NestedKey} {dk dv : PyData} {z : V} {u : Value} (hk : nkey dk = some k) (rz : RelV z u) (hz : Is K H0 false F z dv) : ∀ {xs : List NX} {q : List (PyData × PyData)} {vs : List V}, IsA K H0 false F (xs.map fun x => V.ref x.2.1) (q.map (·.1)) → Vals vs (xs.map fun x => x.2.2) → IsA K H0 false F vs (q.map (·.2)) → (xs.map fun x => some x.1) = (q.map (·.1)).map nkey →
    IsA K H0 false F ((xs.map (putAt k u)).map fun x => V.ref x.2.1) ((q.map fun e => if nkey e.1 = nkey dk then (e.1, dv) else e).map (·.1)) ∧ (∃ vs, Vals vs ((xs.map (putAt k u)).map fun x => x.2.2) ∧ IsA K H0 false F vs ((q.map fun e => if nkey e.1 = nkey dk then (e.1, dv) else e).map (·.2))) ∧
    ((xs.map (putAt k u)).map fun x => some x.1) = ((q.map fun e => if nkey e.1 = nkey dk then (e.1, dv) else e).map (·.1)).map nkey
  | [], [], vs, h1, h2, h3, h4 => ⟨h1, ⟨vs, h2, h3⟩, h4⟩
  | [], _ :: _, _, _, _, _, h => by cases h
  | _ :: _, [], _, _, _, _, h => by cases h
  | x :: xs, e :: q, vs, h1, h2, h3, h4 => by
    rw [List.map_cons, List.map_cons, List.map_cons] at h4
    obtain ⟨e1, e2⟩ := List.cons.inj h4
    rw [List.map_cons] at h1 h2 h3
    cases h1 with
    | cons i1 t1 =>
      cases h2 with
      | cons r2 t2 =>
        cases h3 with
        | cons i3 t3 =>
          obtain ⟨g1, ⟨ws, g2, g3⟩, g4⟩ := en_map hk rz hz t1 t2 t3 e2
          by_cases y : x.1 = k
          · have y2 : nkey e.1 = nkey dk := by rw [← e1, hk, y]
            have y3 : putAt k u x = (x.1, x.2.1, u) := by unfold putAt; rw [if_pos y]
            simp only [List.map_cons, if_pos y2, y3]
            exact ⟨.cons i1 g1, ⟨z :: ws, .cons rz g2, .cons hz g3⟩, by rw [g4, ← e1]⟩
          · have y2 : ¬ nkey e.1 = nkey dk := by rw [← e1, hk]; exact fun w => y (Option.some.inj w)
            have y3 : putAt k u x = x := by unfold putAt; rw [if_neg y]
            simp only [List.map_cons, if_neg y2, y3]
            exact ⟨.cons i1 g1, ⟨_ :: ws, .cons r2 g2, .cons i3 g3⟩, by rw [g4, ← e1]⟩
theorem vals_app {xs ys : List V} {us ws : List Value} (h : Vals xs us) (h2 : Vals ys ws) : Vals (xs ++ ys) (us ++ ws) := by
  unfold Vals at *
  induction h with
  | nil => exact h2
  | cons r t ih => exact .cons r ih
theorem EnU.put {xs : List NX} {q : List (PyData × PyData)} {k : NestedKey} {b : Addr} {u : Value} {z : V} {dk dv : PyData} (h : EnU K H0 F xs q) (hk : nkey dk = some k) (hd : k.depth ≤ 8) (ik : Is K H0 false F (.ref b) dk) (rz : RelV z u) (iz : Is K H0 false F z dv) : EnU K H0 F (storedH xs k b u) (putB nkey q dk dv) := by
  obtain ⟨h1, ⟨vs, h2, h3⟩, h4, h5⟩ := h
  unfold storedH putB
  rw [en_any hk h4]
  split
  · obtain ⟨g1, g2, g3⟩ := en_map hk rz iz h1 h2 h3 h4
    refine ⟨g1, g2, g3, fun x hx => ?_⟩
    obtain ⟨y, hy, rfl⟩ := List.mem_map.mp hx
    have := h5 y hy
    unfold putAt
    split <;> exact this
  · refine ⟨?_, ⟨vs ++ [z], ?_, ?_⟩, ?_, fun x hx => ?_⟩
    · rw [List.map_append, List.map_append]; exact h1.append (.cons ik .nil)
    · rw [List.map_append]; exact vals_app h2 (.cons rz .nil)
    · rw [List.map_append]; exact h3.append (.cons iz .nil)
    · rw [List.map_append, List.map_append, List.map_append, h4]
      show _ = _ ++ [nkey dk]
      rw [hk]; rfl
    · rcases List.mem_append.mp hx with hx | hx
      · exact h5 x hx
      · rw [List.mem_singleton.mp hx]; exact hd
theorem EnU.len {xs : List NX} {q : List (PyData × PyData)} (h : EnU K H0 F xs q) : xs.length = q.length := by
  have := h.keys.length
  simpa using this
theorem EnU.depth {xs : List NX} {q : List (PyData × PyData)} (h : EnU K H0 F xs q) (fz : Sg F H) : KeysN H xs := EnF.depth (n := false) ⟨h.keys, h.vals, h.nk⟩ fz
theorem EnK.len {kvs : List (Key × V)} {q : List (PyData × PyData)} (h : EnK K H0 F kvs q) : kvs.length = q.length := by
  have := h.vals.length
  simpa using this
theorem ek_put {k : Key} {z : V} {dv : PyData} (iz : Is K H0 false F z dv) : ∀ {kvs : List (Key × V)} {q : List (PyData × PyData)}, EnK K H0 F kvs q → (kvs.any fun kv => decide (kv.1 = k)) = (q.any fun e => decide (keyK e.1 = keyK (kD k))) ∧
    EnK K H0 F (kvs.map fun kv => if kv.1 = k then (kv.1, z) else kv) (q.map fun e => if keyK e.1 = keyK (kD k) then (e.1, dv) else e)
  | [], [], h => ⟨rfl, h⟩
  | [], _ :: _, h => by cases h.keys
  | _ :: _, [], h => by cases h.keys
  | p :: kvs, e :: q, ⟨h1, h2⟩ => by
    rw [List.map_cons, List.map_cons] at h1 h2
    obtain ⟨e1, e2⟩ := List.cons.inj h2
    cases h1 with
    | cons i t =>
      obtain ⟨g1, g2, g3⟩ := ek_put (k := k) iz ⟨t, e2⟩
      by_cases y : p.1 = k
      · have y2 : keyK e.1 = keyK (kD k) := by rw [e1, y]
        refine ⟨by simp only [List.any_cons, y, y2, decide_true, Bool.true_or], ?_⟩
        simp only [List.map_cons, if_pos y2, if_pos y]
        exact ⟨.cons iz g2, by simp only [List.map_cons]; rw [e1, g3]⟩
      · have y2 : ¬ keyK e.1 = keyK (kD k) := by rw [e1, keyK_D, keyK_D]; exact fun w => y (Option.some.inj w)
        refine ⟨by simp only [List.any_cons, y, y2, decide_false, Bool.false_or]; exact g1, ?_⟩
        simp only [List.map_cons, if_neg y2, if_neg y]
        exact ⟨.cons i g2, by simp only [List.map_cons]; rw [e1, g3]⟩
theorem EnK.put {kvs : List (Key × V)} {q : List (PyData × PyData)} {k : Key} {z : V} {dv : PyData} (h : EnK K H0 F kvs q) (iz : Is K H0 false F z dv) : EnK K H0 F (L2.putK kvs k z) (putB keyK q (kD k) dv) := by
  obtain ⟨e1, e2⟩ := ek_put (k := k) iz h
  unfold L2.putK putB
  rw [e1]
  split
  · exact e2
  · refine ⟨?_, ?_⟩
    · rw [List.map_append, List.map_append]; exact h.vals.append (.cons iz .nil)
    · rw [List.map_append, List.map_append, h.keys]; rfl
end
def fDuL (own : List Nat) (g : FG) (t : FT) (fk fv : FV) : List Dv → Env → List (PyData × PyData) → Rs (Env × List (PyData × PyData))
  | [], e, acc => .ok (e, acc)
  | x :: xs, e, acc => (noex (g x e)).bind fun e1 => (noex (t e1)).bind fun b => if b = true then (noex (fk e1)).bind fun p => (noex (fv p.1)).bind fun q => (match keyU p.2.2 with
      | some _ => grd (decide (acc.length < 1000000)) (fDuL own g t fk fv xs (wipeE q.1 own) (putB nkey acc p.2.2 q.2.2))
      | none => .bad) else fDuL own g t fk fv xs (wipeE e1 own) acc
def fDu (own : List Nat) (it : FA) (g : FG) (t : FT) (fk fv : FV) : FE := fun env => (it env).bind fun p => grd (okOwn p.1 own) ((fDuL own g t fk fv p.2 (wipeE p.1 own) []).bind fun q => .ok (backE p.1 q.1 own, .sh false (encUL q.2)))
def fDkL (own : List Nat) (g : FG) (t : FT) (fk fv : FV) : List Dv → Env → List (PyData × PyData) → Rs (Env × List (PyData × PyData))
  | [], e, acc => .ok (e, acc)
  | x :: xs, e, acc => (noex (g x e)).bind fun e1 => (noex (t e1)).bind fun b => if b = true then (noex (fk e1)).bind fun p => (noex (fv p.1)).bind fun q => (match keyK p.2.2 with
      | some _ => grd (decide (acc.length < 1000000)) (fDkL own g t fk fv xs (wipeE q.1 own) (putB keyK acc p.2.2 q.2.2))
      | none => .bad) else fDkL own g t fk fv xs (wipeE e1 own) acc
def fDk (own : List Nat) (it : FA) (g : FG) (t : FT) (fk fv : FV) : FE := fun env => (it env).bind fun p => grd (okOwn p.1 own) ((fDkL own g t fk fv p.2 (wipeE p.1 own) []).bind fun q => .ok (backE p.1 q.1 own, .sh false (encK q.2)))
section
variable {K : PySem.W.Frag} {mg : Str → Option Value} {W : WX} {own is : List Nat} {fi : FA} {g : FG} {t : FT} {fk fv : FV} {σ : St} {H : Hp} {Q : VK}
end
section
variable {X : Cx} {W : WX} {kx vx tg iter : Expr} {ifs : List Expr} {scope : Scope} {own : List (Str × Nat)} {pos : PySem.Pos} {is : List Nat} {fi : FA} {g : FG} {t : FT} {fk fv : FE}
end
end Dn
namespace Dn
open PySem PySem.Spec L2 A1 A2 A3
section
variable {K : PySem.W.Frag} {H0 F0 F H : Hp} {env : Env} {σ : St}
end
section
variable {X : Cx} {W : WX} {e a b ek ev : Expr} {f fa fb : FE} {pos pos' : PySem.Pos} {x : Str}
def isOu (e : Env) (i : Nat) : Bool := match e[i]? with
  | some (some (.ou _)) => true
  | _ => false
def fPutU (i : Nat) (fk fv : FV) : FS := fun env => (fv env).bind fun v => grd (isOu v.1 i) <| (fk v.1).bind fun k => match k.1[i]? with
  | some (some (.ou q)) => (match keyU k.2.2 with
    | some _ => grd (decide (q.length < 1000000)) (.ok (.nx (k.1.set i (some (.ou (putB nkey q k.2.2 v.2.2))))))
    | none => .bad)
  | _ => .bad
end
end Dn
namespace Dn
open PySem PySem.Spec L2 A1 A2 A3
abbrev pairD (e : PyData × PyData) : PyData := .tuple [e.1, e.2]
section
variable {X : Cx} {W : WX} {e : Expr} {f : FE} {te : TE} {p pos apos cpos : PySem.Pos}
def fSortI (f : FV) : FE := fun env => (f env).bind fun p => match dictEnts p.2.2 with
  | some q => grd (sortOk (q.map pairD)) (.ok (p.1, .nw p.2.1 (srt (q.map pairD))))
  | none => .bad
end
end Dn
namespace Dn
open PySem PySem.Spec L2 A1 A2 A3
mutual
/-- no list, no dict lies in it -/
def flatT : PyData → Bool
  | .tuple ds => flatTs ds
  | .list _ => false
  | .dict _ => false
  | _ => true
def flatTs : List PyData → Bool
  | [] => true
  | d :: ds => flatT d && flatTs ds
end
section
variable {K : PySem.W.Frag} {H0 H1 F F' : Hp} {n : Bool}
mutual
theorem flat_is (ht : ∀ a xs, Tz F a xs → Tz F' a xs) : ∀ (d : PyData) {v : V}, Is K H0 n F v d → flatT d = true → Is K H1 true F' v d
  | .none, v, h, _ => by cases h; exact .non
  | .bool b, v, h, _ => by cases h; exact .bl b
  | .int i, v, h, _ => by cases h; exact .int i
  | .str x, v, h, _ => by cases h; exact .str x
  | .tuple ds, v, h, e => by
    unfold flatT at e
    cases h with
    | tup a b => exact .tup (ht _ _ a) (flat_isA ht ds b e)
  | .list _, _, _, e => by simp [flatT] at e
  | .dict _, _, _, e => by simp [flatT] at e
theorem flat_isA (ht : ∀ a xs, Tz F a xs → Tz F' a xs) : ∀ (ds : List PyData) {vs : List V}, IsA K H0 n F vs ds → flatTs ds = true → IsA K H1 true F' vs ds
  | [], vs, h, _ => by cases h; exact .nil
  | d :: ds, vs, h, e => by
    unfold flatTs at e
    obtain ⟨e1, e2⟩ := Bool.and_eq_true_iff.mp e
    cases h with
    | cons a b => exact .cons (flat_is ht d a e1) (flat_isA ht ds b e2)
end
end
section
variable {X : Cx} {W : WX} {x : Str} {p pos : PySem.Pos}
end
end Dn
namespace Dn
open PySem PySem.Spec L2 A1 A2 A3
section
variable {P : Program} {w : World} {K : PySem.W.Frag} {mg : Str → Option Value} {base : Heap}
theorem tab_mk {x : Str} {f : Addr} {oc : Value} {od : Option Addr} {fd : FuncData} {sl : Array (Option Value)} {c P : Addr} {oc' : Value} {od' : Option Addr} {vs : Array Value} {sl' : Array (Option Value)} (a : PySem.W.nsIn K mainGlobals x = some (some (.ref f))) (l : K.lookup f = some ⟨oc, od, .func fd, sl⟩) (hc : fd.code = .ref c) (lc : K.lookup c = some ⟨oc', od', .fields vs, sl'⟩) (v : vs[11]? = some (.ref P)) : PySem.W.tabIn K x = some (c, P) := by
  unfold PySem.W.tabIn
  rw [a]
  simp only [l, hc, lc, v]
theorem fn_dc {x qual : Str} {st : Stmt} {f : Addr} {fd : FuncData} {N ps : List Str} {k : Nat} {fb : FS} {c : Addr} (F : Fun K x qual st f fd) (S : FnScope N ps (defScope st)) (hcode : fd.code = .ref c)
    (hbody : ∀ (A : Around) (outer : List PySem.Env) (s : Shared) (H : Hp) (E : XK), Room k (A.deeper (PyProof.Rows.envOfC qual (defScope st) s.heap.objs.size f (.ref c))) → (A.deeper (PyProof.Rows.envOfC qual (defScope st) s.heap.objs.size f (.ref c))).guards = some [] →
      DSs (cxOf (L2.CX P w) P w K mg base N qual (defScope st) f (.ref c) A outer s H E) (WL E) (defBody st) fb) : FnG P w K mg base (k + 1) f fd ps (runF N.length ps.length fb) := by
  obtain ⟨oc, od, kV, doc, pm, an, cdv, ct, osl, rfl, lk, hcd⟩ := F.ex
  cases (hcode : cdv = _)
  refine ⟨fun A outer s H args us vs Q E hr hg e0 hb r hsp => ?_, fun ds h => by unfold runF grd; rw [if_neg (by simpa using h)]⟩
  obtain ⟨Fh, qs, hl, hF, hT, ha, hpost⟩ := hsp
  have hql : qs.length = ps.length := by rw [← ha.length, hl]
  have keepB : ∀ b o, base.get? b = some o → s.heap.get? b = some o := fun b o e => (e0.bs b o e).1
  have KX : K.In s.heap := e0.mod.kin.keeps keepB
  have lim : s.heap.NoLimit := e0.mod.nolimit.keeps keepB
  have hkind : ∀ y ∈ ps.zip us, (defScope st).names.lookup y.1 = some .local ∨ ((defScope st).names.lookup y.1 = some .cell ∧ ((cellsFrom (s.heap.objs.size + 1) (defScope st).names []).lookup y.1).isSome = true) := fun y hy =>
    (S.par y.1 (List.of_mem_zip (a := y.1) (b := y.2) hy).1).imp_right fun q => ⟨q, PySem.W.cellsFrom_some _ _ _ (.inl q)⟩
  refine codeAny_call_function (hr.depth) (KX _ _ lk) rfl S.co S.gen rfl (PySem.W.codeRec_of KX hcd) (hb _ _ _ _ (wpAny_newFunctionEnv_cells S.kind hkind fun env he s1 xx => ?_))
  subst he
  refine ⟨lim.keeps xx.toInCall.keep, codeAny_func ?_⟩
  have hN : ps.length ≤ N.length := by have := congrArg List.length S.pre; rw [List.length_take] at this; omega
  have I := inv_start (CX := L2.CX P w) (mg := mg) (K := K) (P := P) (w := w) (E := E) S hr.hd e0 hl r xx
  have body := hbody A outer s H E (hr.deeper _) hg
  unfold runF at hpost
  obtain ⟨_, hpost⟩ := grd_post hpost
  have hpost := Rs.post_bind.mp hpost
  have hq : tS K mg (WL E) fb { nx := fun _ H' => Q .non H', rt := Q } (L2.start N vs) H := ⟨H, Fh, Fh, _, rel_start hF hT hl hN ha, Rs.post_mono hpost (fun o ho => by
    cases o with
    | nx e => exact fun σ' F' H' r' e2 => ho .non F' H' ⟨e2, r'.base, r'.fz, rel_new r'⟩ .non
    | rt q =>
      cases q with
      | sh n d => exact fun v F' H' h1 h2 h3 h4 h5 => ho v F' H' ⟨h1, h3, h2, h4⟩ h5
      | nw n d => exact fun v F' H' h1 h2 h3 h4 h5 => ho v F' H' ⟨h1, h3, h2, h4⟩ h5
      | own i => exact ho.elim
    | bk e => exact ho.elim
    | ct e => exact ho.elim) fun e x hx cls dO σ F' H' r' _ z => hx cls dO H' r'.base z⟩
  refine wpAny_mono (body.run [] s1 (L2.start N vs) H _ I hq) (fun fl s' hs => ?_) fun _ _ z => z
  cases fl with
  | ret u =>
    obtain ⟨v, σ', H', J, rv, q⟩ := hs
    exact ⟨v, H', J.os, J.bare, J.base, J.hok, rv, q⟩
  | next =>
    obtain ⟨σ', H', J, q⟩ := hs
    exact ⟨V.non, H', J.os, J.bare, J.base, J.hok, rfl, q⟩
  | brk => exact (let ⟨_, _, _, q⟩ := hs; q : False).elim
  | cont => exact (let ⟨_, _, _, q⟩ := hs; q : False).elim
end
end Dn
namespace Dn
open PySem PySem.Spec L2 A1 A2 A3
def gLeT : G2 := fun p q => match p.2, q.2 with
  | .int a, .int b => sc (.bool (decide (a ≤ b)))
  | .tuple xs, .tuple ys => grd (PyData.canLay0 (.tuple xs) && (PyData.canLay0 (.tuple ys) && (PySem.W.alike (.tuple xs) (.tuple ys) && decide ((PyData.tuple xs).depth ≤ 60)))) (sc (.bool (!PySem.W.dataLt (.tuple ys) (.tuple xs))))
  | _, _ => .bad
theorem gLeT_no : ∀ p q, Nx (gLeT p q) := fun p q => by
  unfold gLeT; (repeat' (first | exact trivial | (refine grd_no ?_) | (exact gIxD_no _ _) | (exact bRepr_no _) | split))
section
variable {X : Cx}
theorem op_gLeT (hu : X.A.units + 64 < cLine) : OpR X (compareOp .LtE) (rG2 X.K gLeT) := opr_mk fun pins s σ H x y v u Q H0 F m n d e I rx ry fz bs vx vy hp => by
  unfold gLeT at hp
  dsimp only at hp
  split at hp
  · rename_i a b
    exact op_gLe pins s σ H x y v u Q I rx ry ⟨H0, F, (m, .int a), (n, .int b), fz, bs, vx, vy, hp⟩
  · rename_i xs ys
    obtain ⟨hc, hp⟩ := grd_post hp
    simp only [Bool.and_eq_true, decide_eq_true_iff] at hc
    obtain ⟨c1, c2, c3, c4⟩ := hc
    obtain ⟨as, ra⟩ := Dp.reads I _ x _ (vw_dp fz vx c1) rx
    obtain ⟨bs', rb⟩ := Dp.reads I _ y _ (vw_dp fz vy c2) ry
    refine PySem.W.le_data (da := .tuple xs) (db := .tuple ys) ra rb c3 (fun z => nomatch z) (Nat.lt_of_le_of_lt (Nat.add_le_add_left (Nat.le_trans (Nat.min_le_left _ _) c4) _) (by omega)) ?_
    exact ⟨.bl _, H, I, rfl, sc_ok hp fz (.bl _)⟩
  · exact hp.elim
end
def truR (env : Env) (r : Rs (Env × Dv)) : Rs Bool := match r with
  | .ok (_, (_, .list ds)) => .ok (!ds.isEmpty)
  | .ok (_, (_, .tuple ds)) => .ok (!ds.isEmpty)
  | .ex _ x => .ex env x
  | .ch m f => .ch m fun i => truR env (f i)
  | _ => .bad
def fTr (f : FV) : FT := fun env => truR env (f (lent env))
section
variable {X : Cx} {W : WX} {e : Expr} {f : FE}
end
end Dn
namespace Dn
open PySem PySem.Spec L2 A1 A2 A3
abbrev Pr := Int × Int
abbrev cQ (q : Pr) : PyData := .tuple [.int q.1, .int q.2]
abbrev cTQ (st : List Pr) : PyData := .tuple (st.map cQ)
def leP (p q : Pr) : Bool := decide (p.1 < q.1 ∨ (p.1 = q.1 ∧ p.2 ≤ q.2))
def sortP (xs : List Pr) : List Pr := xs.mergeSort leP
def fstep (L : List (List Pr)) (a : List Pr) : List (List Pr) := if a ∈ L then L else L ++ [a]
theorem srt_pairs (xs : List Pr) : srt (xs.map cQ) = (sortP xs).map cQ := by
  unfold srt sortP
  refine (List.map_mergeSort fun a _ b _ => ?_).symm
  have := congrFun (congrFun (PySem.W.dataLe_ii (fun p : Pr => p.1) (fun p : Pr => p.2)) a) b
  exact this.symm
theorem alike_q (a b : Pr) : PySem.W.alike (cQ a) (cQ b) = true := by simp [PySem.W.alike, PySem.W.alikeAll]
theorem lay_q (a : Pr) : PyData.canLay0 (cQ a) = true := by simp [PyData.canLay0, PyData.canLayAll0]
theorem layA_q : ∀ xs : List Pr, PyData.canLayAll0 (xs.map cQ) = true
  | [] => rfl
  | x :: xs => by rw [List.map_cons, PyData.canLayAll0, lay_q, layA_q xs]; rfl
theorem dep_q (a : Pr) : PyData.depth (cQ a) = 1 := by simp [PyData.depth, PyData.depthAll]
theorem depA_q : ∀ xs : List Pr, PyData.depthAll (xs.map cQ) ≤ 1
  | [] => by rw [List.map_nil, PyData.depthAll]; exact Nat.zero_le _
  | x :: xs => by have := depA_q xs; rw [List.map_cons, PyData.depthAll, dep_q]; omega
theorem sortOk_pairs {xs : List Pr} (h : xs.length ≤ 1000000) : sortOk (xs.map cQ) = true := by
  unfold sortOk sortAl sortKd
  have h1 : ((xs.map cQ).all fun d => (xs.map cQ).all fun e => PySem.W.alike d e) = true := by
    rw [List.all_map]
    refine List.all_eq_true.mpr fun x _ => ?_
    show ((xs.map cQ).all fun e => PySem.W.alike (cQ x) e) = true
    rw [List.all_map]
    exact List.all_eq_true.mpr fun y _ => alike_q x y
  have h2 : ((xs.map cQ).all fun d => decide (d.depth ≤ 60)) = true := by
    rw [List.all_map]
    refine List.all_eq_true.mpr fun x _ => ?_
    show decide ((cQ x).depth ≤ 60) = true
    rw [dep_q]; rfl
  have h3 : ((xs.map cQ).all fun d => match d with
  | .tuple (_ :: _) => true
  | _ => false) = true := by
    rw [List.all_map]; exact List.all_eq_true.mpr fun x _ => rfl
  rw [h1, layA_q, h2, List.length_map, decide_eq_true h]
  simp only [Bool.true_and, Bool.and_true]
  exact Bool.or_eq_true_iff.mpr (.inl h3)
theorem alikeA_q : ∀ a b : List Pr, PySem.W.alikeAll (a.map cQ) (b.map cQ) = true
  | [], [] => rfl
  | [], _ :: _ => rfl
  | _ :: _, [] => rfl
  | x :: a, y :: b => by
    rw [List.map_cons, List.map_cons, PySem.W.alikeAll, alike_q, alikeA_q a b]; rfl
theorem nkey_q (a : Pr) : nkey (cQ a) = some (.tup [.num a.1, .num a.2]) := by simp [nkey, nkeyL]
theorem nkeyL_q : ∀ a : List Pr, nkeyL (a.map cQ) = some (a.map fun q => .tup [.num q.1, .num q.2])
  | [] => by simp [nkeyL]
  | x :: a => by rw [List.map_cons, nkeyL, nkey_q, nkeyL_q a]; rfl
theorem nkey_T (a : List Pr) : nkey (cTQ a) = some (.tup (a.map fun q => .tup [.num q.1, .num q.2])) := by
  unfold cTQ; rw [nkey, nkeyL_q]; rfl
theorem nkey_inj {a b : List Pr} (h : nkey (cTQ a) = nkey (cTQ b)) : a = b := by
  rw [nkey_T, nkey_T] at h
  have h := NestedKey.tup.inj (Option.some.inj h)
  refine (List.map_inj_right (f := fun q : Pr => NestedKey.tup [.num q.1, .num q.2]) fun x y e => ?_).mp h
  have e := NestedKey.tup.inj e
  obtain ⟨e1, e2⟩ := List.cons.inj e
  obtain ⟨e2, _⟩ := List.cons.inj e2
  exact Prod.ext (NestedKey.num.inj e1) (NestedKey.num.inj e2)
theorem dep_T (a : List Pr) : (NestedKey.tup (a.map fun q => .tup [.num q.1, .num q.2])).depth ≤ 2 := by
  have h : ∀ a : List Pr, NestedKey.depthAll (a.map fun q => .tup [.num q.1, .num q.2]) ≤ 1 := by
    intro a
    induction a with
    | nil => simp [NestedKey.depthAll]
    | cons x a ih => rw [List.map_cons, NestedKey.depthAll]; simp [NestedKey.depth, NestedKey.depthAll]; exact Nat.max_le.mpr ⟨Nat.le_refl _, ih⟩
  have := h a
  rw [NestedKey.depth]; omega
theorem putK_T (L : List (List Pr)) (a : List Pr) : putK (L.map cTQ) (cTQ a) = (fstep L a).map cTQ := by
  unfold putK fstep
  have e : ((L.map cTQ).any fun e => decide (nkey e = nkey (cTQ a))) = decide (a ∈ L) := by
    rw [List.any_map, Bool.eq_iff_iff, List.any_eq_true, decide_eq_true_iff]
    exact ⟨fun ⟨x, hx, h⟩ => by rw [← nkey_inj (of_decide_eq_true h)]; exact hx, fun h => ⟨a, h, decide_eq_true rfl⟩⟩
  rw [e]
  by_cases z : a ∈ L
  · rw [if_pos (decide_eq_true z), if_pos z]
  · rw [if_neg (by simpa using z), if_neg z, List.map_append]; rfl
theorem keyOk_T {L : List (List Pr)} {a : List Pr} (h : L.length < 1000000) : keyOk (L.map cTQ) (cTQ a) = true := by
  unfold keyOk
  rw [nkey_T]
  dsimp only
  rw [decide_eq_true (Nat.le_trans (dep_T a) (by decide)), List.length_map, decide_eq_true h]
  simp only [Bool.true_and]
  rw [List.all_map]
  refine List.all_eq_true.mpr fun x _ => ?_
  show (match nkey (cTQ x) with
    | some k => decide (k.depth ≤ 8)
    | none => true) = true
  rw [nkey_T]
  exact decide_eq_true (Nat.le_trans (dep_T x) (by decide))
theorem eqv_q (a b : Pr) : PyData.eqv (cQ a) (cQ b) = decide (a = b) := by
  obtain ⟨a1, a2⟩ := a
  obtain ⟨b1, b2⟩ := b
  simp only [PyData.eqv, PyData.eqvAll, Bool.and_true, Prod.mk.injEq]
  by_cases h1 : a1 = b1 <;> by_cases h2 : a2 = b2 <;> simp [h1, h2]
theorem eqvA_q : ∀ a b : List Pr, PyData.eqvAll (a.map cQ) (b.map cQ) = decide (a = b)
  | [], [] => by simp [PyData.eqvAll]
  | [], _ :: _ => by simp [PyData.eqvAll]
  | _ :: _, [] => by simp [PyData.eqvAll]
  | x :: a, y :: b => by
    rw [List.map_cons, List.map_cons, PyData.eqvAll, eqv_q, eqvA_q a b]
    by_cases h1 : x = y <;> by_cases h2 : a = b <;> simp [h1, h2]
theorem eqv_T (a b : List Pr) : PyData.eqv (cTQ a) (cTQ b) = decide (a = b) := by
  unfold cTQ; rw [PyData.eqv, eqvA_q]
theorem shaped_T (a : List Pr) : SeqAt.shaped (cTQ a) = true := by
  have h1 : PyData.canLay0 (cTQ a) = true := by unfold cTQ; rw [PyData.canLay0, layA_q]
  have h2 : (cTQ a).depth ≤ 64 := by have := depA_q a; unfold cTQ; rw [PyData.depth]; omega
  unfold SeqAt.shaped; rw [h1, decide_eq_true h2]; rfl
theorem shaped_L (L : List (List Pr)) : SeqAt.shaped (.list (L.map cTQ)) = true := by
  have h1 : ∀ L : List (List Pr), PyData.canLayAll0 (L.map cTQ) = true ∧ PyData.depthAll (L.map cTQ) ≤ 2 := by
    intro L
    induction L with
    | nil => exact ⟨rfl, by rw [List.map_nil, PyData.depthAll]; exact Nat.zero_le _⟩
    | cons x L ih =>
      have := depA_q x
      refine ⟨?_, ?_⟩
      · rw [List.map_cons, PyData.canLayAll0, ih.1]
        show (PyData.canLay0 (.tuple (x.map cQ)) && true) = true
        rw [PyData.canLay0, layA_q]; rfl
      · rw [List.map_cons, PyData.depthAll]
        have h3 : PyData.depth (cTQ x) ≤ 2 := by unfold cTQ; rw [PyData.depth]; omega
        have := ih.2
        omega
  have h2 : PyData.canLay0 (.list (L.map cTQ)) = true := by rw [PyData.canLay0, (h1 L).1]
  have h3 : PyData.depth (.list (L.map cTQ)) ≤ 64 := by have := (h1 L).2; rw [PyData.depth]; omega
  unfold SeqAt.shaped; rw [h2, decide_eq_true h3]; rfl
section
variable {β : Type} {h : HX β} {env e : Env} {n m : Bool} {d : PyData} {ds : List PyData} {v va vb : FV} {a : FA} {xs ys : List Pr} {L : List (List Pr)} {i j : Int} {α : Type} {c : α → PyData} {zs : List α}
@[simp ↓ high] theorem cR_sortedQ {k : R → Rs β} (z : xs.length ≤ 1000000) : cR (bSorted (true, .list (xs.map cQ))) h k = k (.nw true ((sortP xs).map cQ)) := by
  unfold cR bSorted seqL
  dsimp only
  rw [sortOk_pairs z, srt_pairs]; rfl
@[simp ↓] theorem cR_tupleTl {k : R → Rs β} : cR (bTuple (true, .list ds)) h k = k (.sh true (.tuple ds)) := id rfl
@[simp ↓ high] theorem cR_slHiL {k : R → Rs β} (z : 0 ≤ i) : cR (gSl (n, .list (zs.map c)) (some i) none) h k = k (.nw n ((zs.drop i.toNat).map c)) := by
  rw [cR_sl, cut_hi z, List.map_drop]
@[simp ↓ 20000] theorem cR_addLq {k : R → Rs β} : cR (gAdd (n, .list (xs.map cQ)) (m, .list [.tuple [.int i, .int j]])) h k = grd (decide (xs.length + 1 ≤ 1000000)) (k (.nw (n && m) ((xs ++ [(i, j)]).map cQ))) := by
  rw [cR_addL, List.length_map, List.map_append]; rfl
@[simp ↓ high] theorem cR_notInD {x : List Pr} {k : R → Rs β} : cR (gInD true (n, cTQ x) (m, .list (L.map cTQ))) h k = k (.sh true (.bool (!decide (x ∈ L)))) := by
  have e : ((L.map cTQ).any fun z => PyData.eqv z (cTQ x)) = decide (x ∈ L) := by
    rw [List.any_map, Bool.eq_iff_iff, List.any_eq_true, decide_eq_true_iff]
    refine ⟨fun ⟨y, hy, q⟩ => ?_, fun q => ⟨x, q, ?_⟩⟩
    · have q : PyData.eqv (cTQ y) (cTQ x) = true := q
      rw [eqv_T] at q
      rw [← of_decide_eq_true q]; exact hy
    · show PyData.eqv (cTQ x) (cTQ x) = true
      rw [eqv_T]; exact decide_eq_true rfl
  unfold cR gInD
  dsimp only
  rw [shaped_T, shaped_L, e]; rfl
def pnK (i : Nat) (e : Env) (dk : PyData) (k : Out → Rs β) : Rs β := match e[i]? with
  | some (some (.on ks)) => grd (keyOk ks dk) (k (.nx (e.set i (some (.on (putK ks dk))))))
  | _ => .bad
@[simp ↓] theorem cO_putN {i : Nat} {k : Out → Rs β} : cO (fPutN i va vb) env h k = cV vb env h fun e _ d => grd (isOn e i) (cV va e h fun e _ dk => pnK i e dk k) := by
  unfold cO cV fPutN
  rw [on_bind]
  refine congrArg _ (funext fun p => ?_)
  rw [on_grd, on_bind]
  refine congrArg _ (congrArg _ (funext fun p2 => ?_))
  obtain ⟨e2, m2, dk⟩ := p2
  show on (match e2[i]? with
    | some (some (.on ks)) => grd (keyOk ks dk) (.ok (.nx (e2.set i (some (.on (putK ks dk))))))
    | _ => .bad) h k = pnK i e2 dk k
  unfold pnK
  cases e2[i]? with
  | none => rfl
  | some s => cases s with
    | none => rfl
    | some s => cases s with
      | on q => exact on_grd _ _ _ _
      | _ => rfl
def etK (e : Env) (n : Bool) (d : PyData) (k : Env → List Dv → Rs β) : Rs β := match d with
  | .tuple ds => k e ((List.range ds.length).zipWith (fun i d => (n, .tuple [.int (i : Nat), d])) ds)
  | _ => .bad
@[simp ↓] theorem cA_enumT {k : Env → List Dv → Rs β} : cA (fEnumT v) env h k = cV v env h fun e n d => etK e n d k := by
  unfold cA cV fEnumT
  rw [on_bind]
  refine congrArg _ (funext fun p => ?_)
  unfold etK
  obtain ⟨e, n, d⟩ := p
  cases d <;> rfl
end
section
variable {β : Type} {h : HX β} {r : Env} {kO : Out → Rs β} {ks : List PyData} {L : List (List Pr)} {a : List Pr}
@[simp ↓] theorem pnK_0 (z : L.length < 1000000) : pnK 0 (some (.on (L.map cTQ)) :: r) (cTQ a) kO = kO (.nx (some (.on ((fstep L a).map cTQ)) :: r)) := by
  show grd (keyOk (L.map cTQ) (cTQ a)) (kO (.nx (some (.on (putK (L.map cTQ) (cTQ a))) :: r))) = _
  rw [keyOk_T z, putK_T]; rfl
@[simp ↓] theorem pnK_1 {s0 : Option Sl} (z : L.length < 1000000) : pnK 1 (s0 :: some (.on (L.map cTQ)) :: r) (cTQ a) kO = kO (.nx (s0 :: some (.on ((fstep L a).map cTQ)) :: r)) := by
  show grd (keyOk (L.map cTQ) (cTQ a)) (kO (.nx (s0 :: some (.on (putK (L.map cTQ) (cTQ a))) :: r))) = _
  rw [keyOk_T z, putK_T]; rfl
@[simp ↓] theorem pnK_2 {s0 s1 : Option Sl} (z : L.length < 1000000) : pnK 2 (s0 :: s1 :: some (.on (L.map cTQ)) :: r) (cTQ a) kO = kO (.nx (s0 :: s1 :: some (.on ((fstep L a).map cTQ)) :: r)) := by
  show grd (keyOk (L.map cTQ) (cTQ a)) (kO (.nx (s0 :: s1 :: some (.on (putK (L.map cTQ) (cTQ a))) :: r))) = _
  rw [keyOk_T z, putK_T]; rfl
@[simp ↓] theorem pnK_3 {s0 s1 s2 : Option Sl} (z : L.length < 1000000) : pnK 3 (s0 :: s1 :: s2 :: some (.on (L.map cTQ)) :: r) (cTQ a) kO = kO (.nx (s0 :: s1 :: s2 :: some (.on ((fstep L a).map cTQ)) :: r)) := by
  show grd (keyOk (L.map cTQ) (cTQ a)) (kO (.nx (s0 :: s1 :: s2 :: some (.on (putK (L.map cTQ) (cTQ a))) :: r))) = _
  rw [keyOk_T z, putK_T]; rfl
@[simp ↓] theorem pnK_4 {s0 s1 s2 s3 : Option Sl} (z : L.length < 1000000) : pnK 4 (s0 :: s1 :: s2 :: s3 :: some (.on (L.map cTQ)) :: r) (cTQ a) kO = kO (.nx (s0 :: s1 :: s2 :: s3 :: some (.on ((fstep L a).map cTQ)) :: r)) := by
  show grd (keyOk (L.map cTQ) (cTQ a)) (kO (.nx (s0 :: s1 :: s2 :: s3 :: some (.on (putK (L.map cTQ) (cTQ a))) :: r))) = _
  rw [keyOk_T z, putK_T]; rfl
@[simp ↓] theorem pnK_5 {s0 s1 s2 s3 s4 : Option Sl} (z : L.length < 1000000) : pnK 5 (s0 :: s1 :: s2 :: s3 :: s4 :: some (.on (L.map cTQ)) :: r) (cTQ a) kO = kO (.nx (s0 :: s1 :: s2 :: s3 :: s4 :: some (.on ((fstep L a).map cTQ)) :: r)) := by
  show grd (keyOk (L.map cTQ) (cTQ a)) (kO (.nx (s0 :: s1 :: s2 :: s3 :: s4 :: some (.on (putK (L.map cTQ) (cTQ a))) :: r))) = _
  rw [keyOk_T z, putK_T]; rfl
@[simp ↓] theorem pnK_6 {s0 s1 s2 s3 s4 s5 : Option Sl} (z : L.length < 1000000) : pnK 6 (s0 :: s1 :: s2 :: s3 :: s4 :: s5 :: some (.on (L.map cTQ)) :: r) (cTQ a) kO = kO (.nx (s0 :: s1 :: s2 :: s3 :: s4 :: s5 :: some (.on ((fstep L a).map cTQ)) :: r)) := by
  show grd (keyOk (L.map cTQ) (cTQ a)) (kO (.nx (s0 :: s1 :: s2 :: s3 :: s4 :: s5 :: some (.on (putK (L.map cTQ) (cTQ a))) :: r))) = _
  rw [keyOk_T z, putK_T]; rfl
@[simp ↓] theorem pnK_7 {s0 s1 s2 s3 s4 s5 s6 : Option Sl} (z : L.length < 1000000) : pnK 7 (s0 :: s1 :: s2 :: s3 :: s4 :: s5 :: s6 :: some (.on (L.map cTQ)) :: r) (cTQ a) kO = kO (.nx (s0 :: s1 :: s2 :: s3 :: s4 :: s5 :: s6 :: some (.on ((fstep L a).map cTQ)) :: r)) := by
  show grd (keyOk (L.map cTQ) (cTQ a)) (kO (.nx (s0 :: s1 :: s2 :: s3 :: s4 :: s5 :: s6 :: some (.on (putK (L.map cTQ) (cTQ a))) :: r))) = _
  rw [keyOk_T z, putK_T]; rfl
@[simp ↓] theorem pnK_8 {s0 s1 s2 s3 s4 s5 s6 s7 : Option Sl} (z : L.length < 1000000) : pnK 8 (s0 :: s1 :: s2 :: s3 :: s4 :: s5 :: s6 :: s7 :: some (.on (L.map cTQ)) :: r) (cTQ a) kO = kO (.nx (s0 :: s1 :: s2 :: s3 :: s4 :: s5 :: s6 :: s7 :: some (.on ((fstep L a).map cTQ)) :: r)) := by
  show grd (keyOk (L.map cTQ) (cTQ a)) (kO (.nx (s0 :: s1 :: s2 :: s3 :: s4 :: s5 :: s6 :: s7 :: some (.on (putK (L.map cTQ) (cTQ a))) :: r))) = _
  rw [keyOk_T z, putK_T]; rfl
@[simp ↓] theorem pnK_9 {s0 s1 s2 s3 s4 s5 s6 s7 s8 : Option Sl} (z : L.length < 1000000) : pnK 9 (s0 :: s1 :: s2 :: s3 :: s4 :: s5 :: s6 :: s7 :: s8 :: some (.on (L.map cTQ)) :: r) (cTQ a) kO = kO (.nx (s0 :: s1 :: s2 :: s3 :: s4 :: s5 :: s6 :: s7 :: s8 :: some (.on ((fstep L a).map cTQ)) :: r)) := by
  show grd (keyOk (L.map cTQ) (cTQ a)) (kO (.nx (s0 :: s1 :: s2 :: s3 :: s4 :: s5 :: s6 :: s7 :: s8 :: some (.on (putK (L.map cTQ) (cTQ a))) :: r))) = _
  rw [keyOk_T z, putK_T]; rfl
@[simp ↓] theorem pnK_10 {s0 s1 s2 s3 s4 s5 s6 s7 s8 s9 : Option Sl} (z : L.length < 1000000) : pnK 10 (s0 :: s1 :: s2 :: s3 :: s4 :: s5 :: s6 :: s7 :: s8 :: s9 :: some (.on (L.map cTQ)) :: r) (cTQ a) kO = kO (.nx (s0 :: s1 :: s2 :: s3 :: s4 :: s5 :: s6 :: s7 :: s8 :: s9 :: some (.on ((fstep L a).map cTQ)) :: r)) := by
  show grd (keyOk (L.map cTQ) (cTQ a)) (kO (.nx (s0 :: s1 :: s2 :: s3 :: s4 :: s5 :: s6 :: s7 :: s8 :: s9 :: some (.on (putK (L.map cTQ) (cTQ a))) :: r))) = _
  rw [keyOk_T z, putK_T]; rfl
@[simp ↓] theorem pnK_11 {s0 s1 s2 s3 s4 s5 s6 s7 s8 s9 s10 : Option Sl} (z : L.length < 1000000) : pnK 11 (s0 :: s1 :: s2 :: s3 :: s4 :: s5 :: s6 :: s7 :: s8 :: s9 :: s10 :: some (.on (L.map cTQ)) :: r) (cTQ a) kO = kO (.nx (s0 :: s1 :: s2 :: s3 :: s4 :: s5 :: s6 :: s7 :: s8 :: s9 :: s10 :: some (.on ((fstep L a).map cTQ)) :: r)) := by
  show grd (keyOk (L.map cTQ) (cTQ a)) (kO (.nx (s0 :: s1 :: s2 :: s3 :: s4 :: s5 :: s6 :: s7 :: s8 :: s9 :: s10 :: some (.on (putK (L.map cTQ) (cTQ a))) :: r))) = _
  rw [keyOk_T z, putK_T]; rfl
end
end Dn
namespace Dn
open PySem PySem.Spec L2 A1 A2 A3
structure KeyC {α : Type} (c : α → PyData) : Prop where
  key : ∀ a, ∃ k, keyU (c a) = some k
  inj : ∀ a b, nkey (c a) = nkey (c b) → a = b
theorem KeyC.nk {α : Type} {c : α → PyData} (Z : KeyC c) (a : α) : ∃ k, keyU (c a) = some k ∧ nkey (c a) = some k := by
  obtain ⟨k, h⟩ := Z.key a
  exact ⟨k, h, (keyU_some h).1⟩
theorem KeyC.tup {α : Type} {c : α → PyData} (Z : KeyC c) (a : α) : ∃ ds, c a = .tuple ds := by
  obtain ⟨k, h⟩ := Z.key a
  obtain ⟨h1, _, ks, rfl⟩ := keyU_some h
  cases q : c a with
  | tuple ds => exact ⟨ds, rfl⟩
  | _ => rw [q] at h1; simp [nkey] at h1
def enc {α β : Type} (c : α → PyData) (cv : β → PyData) (E : List (α × β)) : List (PyData × PyData) := E.map fun e => (c e.1, cv e.2)
section
variable {α γ : Type} [DecidableEq α] {c : α → PyData} {cv : γ → PyData} {E : List (α × γ)} {a : α} {b : γ}
end
section
variable {β : Type} {h : HX β} {env e : Env} {n m : Bool} {d : PyData} {ds : List PyData} {v va vb : FV} {p : FS} {t : FT}
variable {α γ : Type} [DecidableEq α] {c : α → PyData} {cv : γ → PyData} {E : List (α × γ)} {a : α} {b : γ}
def puU (i : Nat) (e : Env) (dk d : PyData) (k : Out → Rs β) : Rs β := match e[i]? with
  | some (some (.ou q)) => (match keyU dk with
    | some _ => grd (decide (q.length < 1000000)) (k (.nx (e.set i (some (.ou (putB nkey q dk d))))))
    | none => .bad)
  | _ => .bad
@[simp ↓] theorem cO_putU {i : Nat} {k : Out → Rs β} : cO (fPutU i va vb) env h k = cV vb env h fun e _ d => grd (isOu e i) (cV va e h fun e _ dk => puU i e dk d k) := by
  unfold cO cV fPutU
  rw [on_bind]
  refine congrArg _ (funext fun p => ?_)
  rw [on_grd, on_bind]
  refine congrArg _ (congrArg _ (funext fun p2 => ?_))
  obtain ⟨e2, m2, dk⟩ := p2
  show on (match e2[i]? with
    | some (some (.ou q)) => (match keyU dk with
      | some _ => grd (decide (q.length < 1000000)) (.ok (.nx (e2.set i (some (.ou (putB nkey q dk p.2.2))))))
      | none => .bad)
    | _ => .bad) h k = puU i e2 dk p.2.2 k
  unfold puU
  split
  · split
    · rw [on_grd]; rfl
    · rfl
  · rfl
def trK (d : PyData) (k : Bool → Rs β) : Rs β := match d with
  | .list ds => k (!ds.isEmpty)
  | .tuple ds => k (!ds.isEmpty)
  | _ => .bad
@[simp ↓] theorem cT_tr {k : Bool → Rs β} : cT (fTr v) env h k = cV v (lent env) (fun _ x => h env x) fun _ _ d => trK d k := by
  unfold cT cV fTr trK
  generalize v (lent env) = r
  induction r with
  | bad => rfl
  | ex e x => rfl
  | ch m f ih => exact congrArg (Rs.ch m) (funext ih)
  | ok p =>
    obtain ⟨e, n, d⟩ := p
    cases d <;> rfl
def vlK (e : Env) (n : Bool) (d : PyData) (k : Env → List Dv → Rs β) : Rs β := match dictEnts d with
  | some q => k e (q.map fun x => (n, x.2))
  | none => .bad
@[simp ↓] theorem cA_values {k : Env → List Dv → Rs β} : cA (fValues v) env h k = cV v env h fun e n d => vlK e n d k := by
  unfold cA cV fValues
  rw [on_bind]
  refine congrArg _ (funext fun p => ?_)
  unfold vlK
  obtain ⟨e, n, d⟩ := p
  dsimp only
  cases dictEnts d <;> rfl
@[simp ↓] theorem vlK_e {k : Env → List Dv → Rs β} : vlK e n (encUL (enc c cv E)) k = k e (wk n ((E.map (·.2)).map cv)) := by
  show k e ((enc c cv E).map fun x => (n, x.2)) = _
  unfold enc wk
  rw [List.map_map, List.map_map, List.map_map]; rfl
def lsK (d : PyData) (k : List PyData → Rs β) : Rs β := match d with
  | .list ds => k ds
  | _ => .bad
def gnK (ag : List Bool → Bool) (ds : List PyData) (q : PyData) (k : Bool → Rs β) : Rs β := match entsU q, keysU ds with
  | some es, some ks => k (ag (ks.map fun k => (lookU es k).isSome))
  | _, _ => .bad
@[simp ↓] theorem cE_genIn {ag : List Bool → Bool} {k : Env → R → Rs β} : cE (fGenIn ag va vb) env h k = cV va env h fun e _ d => lsK d fun ds => cV vb e h fun e1 _ q => gnK ag ds q fun b => k e (.sh true (.bool b)) := by
  unfold cE cV fGenIn
  rw [on_bind]
  refine congrArg _ (funext fun p => ?_)
  unfold lsK
  obtain ⟨e, n, d⟩ := p
  cases d with
  | list ds =>
    dsimp only
    rw [on_bind]
    refine congrArg _ (funext fun p2 => ?_)
    obtain ⟨e2, m2, q2⟩ := p2
    unfold gnK
    dsimp only
    cases entsU q2 with
    | none => rfl
    | some es =>
      cases keysU ds <;> rfl
  | _ => rfl
def cDu (own : List Nat) (g : FG) (t : FT) (fk fv : FV) (xs : List Dv) (e : Env) (h : HX β) (k : Env → R → Rs β) : Rs β := grd (okOwn e own) (on (fDuL own g t fk fv xs (wipeE e own) []) h fun q => k (backE e q.1 own) (.sh false (encUL q.2)))
@[simp ↓] theorem cE_du {own : List Nat} {g : FG} {f : FA} {k : Env → R → Rs β} : cE (fDu own f g t va vb) env h k = cA f env h fun e xs => cDu own g t va vb xs e h k := by
  unfold cE cA cDu fDu
  rw [on_bind]
  refine congrArg _ (funext fun p => ?_)
  rw [on_grd, on_bind]; rfl
end
section
variable {β : Type} {h : HX β} {r : Env} {kV : Env → Bool → PyData → Rs β} {kO : Out → Rs β} {q : List (PyData × PyData)}
variable {α γ : Type} [DecidableEq α] {c : α → PyData} {cv : γ → PyData} {E : List (α × γ)} {a : α} {b : γ} {d : PyData}
end
end Dn
namespace Dn
open PySem PySem.Spec L2 A1 A2 A3
def fRg3 (f : FA) : FA := fun env => (f env).bind fun p => match p.2 with
  | [(_, .int i), (_, .int j), (_, .int c)] => grd (decide (c = -1) && (small i && small j)) (.ok (p.1, (List.range (i - j).toNat).map fun (k : Nat) => (true, .int (i + (k : Int) * -1))))
  | _ => .bad
section
variable {K : PySem.W.Frag} {H0 F : Hp}
end
section
variable {X : Cx} {W : WX} {a b c tg : Expr} {p pos : PySem.Pos}
end
section
variable {β : Type} {h : HX β} {n m l : Bool} {a : FA} {env e : Env}
def rg3K (e : Env) (ps : List Dv) (k : Env → List Dv → Rs β) : Rs β := match ps with
  | [(_, .int i), (_, .int j), (_, .int c)] => grd (decide (c = -1) && (small i && small j)) (k e ((List.range (i - j).toNat).map fun (x : Nat) => (true, .int (i + (x : Int) * -1))))
  | _ => .bad
@[simp ↓] theorem rg3K_i {i j : Int} {k : Env → List Dv → Rs β} : rg3K e [(n, .int i), (m, .int j), (l, .int (-1))] k = grd (small i && small j) (k e (wk true ((List.range (i - j).toNat).map fun (x : Nat) => .int (i + (x : Int) * -1)))) := by
  unfold rg3K wk
  rw [List.map_map]; rfl
@[simp ↓] theorem cA_rg3 {k : Env → List Dv → Rs β} : cA (fRg3 a) env h k = cA a env h fun e ps => rg3K e ps k := by
  unfold cA fRg3
  rw [on_bind]
  refine congrArg _ (funext fun p => ?_)
  obtain ⟨e, ps⟩ := p
  unfold rg3K
  dsimp only
  split
  · rw [on_grd]; rfl
  · rfl
end
section
variable {X : Cx} {W : WX} {x : Str} {i : Int} {pos : PySem.Pos}
theorem d_glob (hg : Gl X x) (hm : ∃ t, X.mg x = some (.int i t)) (hd : (x == ("__debug__" : Str)) = false := by decide) : DE X W (.Name x pos) (fC (.int i)) := by
  obtain ⟨t, hm⟩ := hm
  exact pe_le (pe_glob hg hm (v := .int i) ⟨t, rfl⟩ hd) fun σ H Q ⟨H0, F0, F, env, r, q⟩ => q (.int i) F H (VRes.rel r (Ext.refl r.fz) (.int i)) (Sm.refl H) (Same.refl F)
end
def bReprS (p : Dv) : Rs R := match p.2 with
  | .int i => grd (decide (i.natAbs < 2 ^ 60)) (sc (.str (Str.ofString (toString i))))
  | .none => sc (.str "None")
  | _ => bRepr p
section
variable {X : Cx}
end
section
variable {β : Type} {h : HX β} {n : Bool} {i : Int} {ds : List PyData}
@[simp ↓] theorem cR_reprI {k : R → Rs β} (z : i.natAbs < 2 ^ 60) : cR (bReprS (n, .int i)) h k = k (.sh true (.str (Str.ofString (toString i)))) := by
  unfold cR bReprS
  dsimp only
  rw [decide_eq_true z]; rfl
end
end Dn
namespace Dn
open PySem PySem.Spec L2 A1 A2 A3
section
variable {X : Cx} {pos : PySem.Pos} {es : List Expr} {t : TA}
end
def fTix (va vb : FV) : FE := fun env => (va env).bind fun p => match p.2.2 with
  | .tuple ds => (vb p.1).bind fun q => (match q.2.2, intsOf ds with
    | .int k, some ns => grd (decide (k ∈ ns)) (.ok (q.1, .sh true (.int (ns.idxOf k : Nat))))
    | _, _ => .bad)
  | _ => .bad
section
variable {X : Cx} {W : WX} {a b : Expr} {fa fb : FE} {apos cpos : PySem.Pos}
end
end Dn
namespace Dn
open PySem PySem.Spec L2 A1 A2 A3
section
variable {X : Cx} {W : WX}
end
def insI (k : Int) : List Int → List Int
  | [] => [k]
  | x :: xs => if k < x then k :: x :: xs else if k = x then x :: xs else x :: insI k xs
def uniqI (ns : List Int) : List Int := ns.foldr insI []
def fSortSet (f : FV) : FE := fun env => (f env).bind fun p => match p.2.2 with
  | .tuple ds => (match intsOf ds with
    | some ns => grd (decide (ns.length < 60)) (.ok (p.1, .nw true ((uniqI ns).map .int)))
    | none => .bad)
  | _ => .bad
section
variable {X : Cx} {W : WX} {e : Expr} {f : FE} {p p2 pos pos2 : PySem.Pos}
end
end Dn
namespace Dn
open PySem PySem.Spec L2 A1 A2 A3
def fGetU (va vb : FV) : FE := fun env => (va env).bind fun p => match entsU p.2.2 with
  | some es => (vb p.1).bind fun q => (match keyU q.2.2 with
    | some k => (match lookU es k with
      | some d => .ok (q.1, .sh (p.2.1 || atom d) d)
      | none => .ok (q.1, .sh true .none))
    | none => .bad)
  | none => .bad
section
variable {X : Cx} {W : WX} {o e a b : Expr} {fa fb : FE} {apos cpos : PySem.Pos} {td ty : TE}
end
end Dn
namespace Dn
open PySem PySem.Spec L2 A1 A2 A3
section
variable {X : Cx} {W : WX} {ek ev : Expr} {pos : PySem.Pos} {fa fb : FE}
def fDispU (fk fv : FV) : FE := fun env => (noex (fk env)).bind fun k => match keyU k.2.2 with
  | some _ => (noex (fv k.1)).bind fun v => .ok (v.1, .sh false (encUL [(k.2.2, v.2.2)]))
  | none => .bad
end
end Dn
namespace Dn
open PySem PySem.Spec L2 A1 A2 A3
section
variable {β : Type} {h : HX β} {env e : Env} {n m : Bool} {d : PyData} {ds : List PyData} {v va vb : FV}
variable {α γ : Type} [DecidableEq α] {c : α → PyData} {cv : γ → PyData} {E : List (α × γ)} {a : α}
def guE (d : PyData) (k : List (PyData × PyData) → Rs β) : Rs β := match entsU d with
  | some es => k es
  | none => .bad
def guK (n : Bool) (es : List (PyData × PyData)) (d : PyData) (k : R → Rs β) : Rs β := match keyU d with
  | some key => (match lookU es key with
    | some x => k (.sh (n || atom x) x)
    | none => k (.sh true .none))
  | none => .bad
@[simp ↓] theorem cE_getU {k : Env → R → Rs β} : cE (fGetU va vb) env h k = cV va env h fun e n d => guE d fun es => cV vb e h fun e _ d' => guK n es d' fun r => k e r := by
  unfold cE cV fGetU
  rw [on_bind]
  refine congrArg _ (funext fun p => ?_)
  obtain ⟨e, n, d⟩ := p
  unfold guE
  dsimp only
  cases entsU d with
  | none => rfl
  | some es =>
    dsimp only
    rw [on_bind]
    refine congrArg _ (funext fun p2 => ?_)
    obtain ⟨e2, m2, d2⟩ := p2
    unfold guK
    dsimp only
    cases keyU d2 with
    | none => rfl
    | some key =>
      dsimp only
      cases lookU es key <;> rfl
def itmK (e : Env) (n : Bool) (d : PyData) (k : Env → List Dv → Rs β) : Rs β := match dictEnts d with
  | some q => k e (q.map fun x => (n, .tuple [x.1, x.2]))
  | none => .bad
@[simp ↓] theorem cA_items {k : Env → List Dv → Rs β} : cA (fItems v) env h k = cV v env h fun e n d => itmK e n d k := by
  unfold cA cV fItems
  rw [on_bind]
  refine congrArg _ (funext fun p => ?_)
  unfold itmK
  obtain ⟨e, n, d⟩ := p
  dsimp only
  cases dictEnts d <;> rfl
abbrev cItm (c : α → PyData) (cv : γ → PyData) (e : α × γ) : PyData := .tuple [c e.1, cv e.2]
@[simp ↓] theorem itmK_e {k : Env → List Dv → Rs β} : itmK e n (encUL (enc c cv E)) k = k e (wk n (E.map (cItm c cv))) := by
  show k e ((enc c cv E).map fun x => (n, .tuple [x.1, x.2])) = _
  unfold enc wk
  rw [List.map_map, List.map_map]; rfl
def kyK (d : PyData) (r : Rs β) : Rs β := match keyU d with
  | some _ => r
  | none => .bad
@[simp ↓] theorem cE_dispU {k : Env → R → Rs β} : cE (fDispU va vb) env h k = cV va env (fun _ _ => .bad) fun e _ dk => kyK dk (cV vb e (fun _ _ => .bad) fun e _ dv => k e (.sh false (encUL [(dk, dv)]))) := by
  unfold cE cV fDispU
  generalize va env = r
  induction r with
  | bad => rfl
  | ex e x => rfl
  | ch m f ih => exact congrArg (Rs.ch m) (funext ih)
  | ok p =>
    obtain ⟨e, n, dk⟩ := p
    show on (match keyU dk with | some _ => _ | none => _) h _ = kyK dk _
    unfold kyK
    dsimp only
    cases keyU dk with
    | none => rfl
    | some key =>
      dsimp only
      generalize vb e = r
      induction r with
      | bad => rfl
      | ex e x => rfl
      | ch m f ih => exact congrArg (Rs.ch m) (funext ih)
      | ok p => rfl
end
end Dn
namespace Dn
open PySem PySem.Spec L2 A1 A2 A3
section
variable {β : Type} {h : HX β} {env e : Env} {n m : Bool} {d : PyData} {ds : List PyData} {v va vb : FV} {o : List Int} {i : Int}
def tuK (d : PyData) (k : List PyData → Rs β) : Rs β := match d with
  | .tuple ds => k ds
  | _ => .bad
def tixK (ds : List PyData) (d : PyData) (k : R → Rs β) : Rs β := match d, intsOf ds with
  | .int i, some ns => grd (decide (i ∈ ns)) (k (.sh true (.int (ns.idxOf i : Nat))))
  | _, _ => .bad
@[simp ↓] theorem cE_tix {k : Env → R → Rs β} : cE (fTix va vb) env h k = cV va env h fun e _ d => tuK d fun ds => cV vb e h fun e _ d' => tixK ds d' fun r => k e r := by
  unfold cE cV fTix
  rw [on_bind]
  refine congrArg _ (funext fun p => ?_)
  obtain ⟨e, n, d⟩ := p
  cases d with
  | tuple ds =>
    unfold tuK
    dsimp only
    rw [on_bind]
    refine congrArg _ (funext fun p2 => ?_)
    obtain ⟨e2, m2, d2⟩ := p2
    unfold tixK
    dsimp only
    cases d2 with
    | int i =>
      cases intsOf ds with
      | none => rfl
      | some ns => dsimp only; rw [on_grd]; rfl
    | _ => rfl
  | _ => rfl
def ssK (d : PyData) (k : R → Rs β) : Rs β := match d with
  | .tuple ds => (match intsOf ds with
    | some ns => grd (decide (ns.length < 60)) (k (.nw true ((uniqI ns).map .int)))
    | none => .bad)
  | _ => .bad
@[simp ↓] theorem cE_sortSet {k : Env → R → Rs β} : cE (fSortSet v) env h k = cV v env h fun e _ d => ssK d fun r => k e r := by
  unfold cE cV fSortSet
  rw [on_bind]
  refine congrArg _ (funext fun p => ?_)
  obtain ⟨e, n, d⟩ := p
  cases d with
  | tuple ds =>
    unfold ssK
    dsimp only
    cases intsOf ds with
    | none => rfl
    | some ns => dsimp only; rw [on_grd]; rfl
  | _ => rfl
def siI (n : Bool) (d : PyData) (k : R → Rs β) : Rs β := match dictEnts d with
  | some q => grd (sortOk (q.map pairD)) (k (.nw n (srt (q.map pairD))))
  | none => .bad
@[simp ↓] theorem cE_sortI {k : Env → R → Rs β} : cE (fSortI v) env h k = cV v env h fun e n d => siI n d fun r => k e r := by
  unfold cE cV fSortI
  rw [on_bind]
  refine congrArg _ (funext fun p => ?_)
  obtain ⟨e, n, d⟩ := p
  unfold siI
  dsimp only
  cases dictEnts d with
  | none => rfl
  | some q => dsimp only; rw [on_grd]; rfl
end
end Dn
namespace Dn
open PySem PySem.Spec L2 A1 A2 A3
section
variable {β γ : Type} {h : HX β} {env e : Env} {n : Bool} {va vb : FV} {cv : γ → PyData} {E : List (Int × γ)} {a : Int} {b : γ}
def cDk (own : List Nat) (g : FG) (t : FT) (fk fv : FV) (xs : List Dv) (e : Env) (h : HX β) (k : Env → R → Rs β) : Rs β := grd (okOwn e own) (on (fDkL own g t fk fv xs (wipeE e own) []) h fun q => k (backE e q.1 own) (.sh false (encK q.2)))
@[simp ↓] theorem cE_dk {own : List Nat} {g : FG} {t : FT} {f : FA} {k : Env → R → Rs β} : cE (fDk own f g t va vb) env h k = cA f env h fun e xs => cDk own g t va vb xs e h k := by
  unfold cE cA cDk fDk
  rw [on_bind]
  refine congrArg _ (funext fun p => ?_)
  rw [on_grd, on_bind]; rfl
variable {t : FT}
end
end Dn
namespace Dn
open PySem PySem.Spec L2 A1 A2 A3
def fOrN (f : FV) (g : FE) : FE := fun env => (f env).bind fun p => match p.2.2 with
  | .none => g p.1
  | .int i => if i = 0 then g p.1 else .ok (p.1, .sh true (.int i))
  | _ => .bad
section
variable {X : Cx} {W : WX} {a b : Expr} {fa fb : FE} {pos : PySem.Pos}
end
section
variable {β : Type} {h : HX β} {env : Env} {v : FV} {fb : FE}
def orK (e : Env) (d : PyData) (a : Rs β) (k : Env → R → Rs β) : Rs β := match d with
  | .none => a
  | .int i => if i = 0 then a else k e (.sh true (.int i))
  | _ => .bad
@[simp ↓] theorem cE_orN {k : Env → R → Rs β} : cE (fOrN v fb) env h k = cV v env h fun e _ d => orK e d (cE fb e h k) k := by
  unfold cE cV fOrN
  rw [on_bind]
  refine congrArg _ (funext fun p => ?_)
  obtain ⟨e, n, d⟩ := p
  cases d with
  | int i =>
    dsimp only
    unfold orK
    by_cases z : i = 0
    · simp only [z, if_true]
    · simp only [z, if_false]; rfl
  | _ => rfl
end
end Dn
namespace Dn
open PySem PySem.Spec L2 A1 A2 A3
section
variable {K : PySem.W.Frag} {H0 F0 F H : Hp} {env : Env} {σ : St}
end
section
variable {X : Cx} {W : WX} {o i ev : Expr} {td ty : TE} {fb : FE} {pos pos' : PySem.Pos} {x y z : Str}
def fNest1 (i : Nat) (q : List (PyData × PyData)) (dk : PyData) (env : Env) : Rs Out := match keyU dk with
  | some _ => grd (decide (q.length < 1000000) && !(q.any fun e => decide (nkey e.1 = nkey dk))) (.ok (.nx (env.set i (some (.oz q dk [])))))
  | none => .bad
def shD (env : Env) (j : Nat) : Option PyData := match env[j]? with
  | some (some (.sh _ d)) => some d
  | _ => none
def fNestP (i j l : Nat) (fv : FV) : FS := fun env => (fv env).bind fun v => match v.1[i]? with
  | some (some (.oz q kd es)) => (match shD v.1 j, shD v.1 l with
    | some dk, some (.int c) => (match keyU dk with
      | some k => grd (decide (nkey kd = some k) && decide (es.length < 1000000)) (.ok (.nx (v.1.set i (some (.oz q kd (putB keyK es (.int c) v.2.2))))))
      | none => .bad)
    | _, _ => .bad)
  | _ => .bad
end
end Dn
namespace Dn
open PySem PySem.Spec L2 A1 A2 A3
def sealE (e : Env) (i : Nat) : Env := match e[i]? with
  | some (some s) => e.set i (some (.sh s.flag s.data))
  | _ => e
def fSeal (i : Nat) (f : FS) : FS := fun env => (f env).bind fun o => match o with
  | .nx e => .ok (.nx (sealE e i))
  | o => .ok o
section
variable {X : Cx} {W : WX} {s : Stmt} {f : FS} {i : Nat}
end
section
variable {β : Type} {h : HX β} {i : Nat} {f : FS} {env : Env}
def seaK (i : Nat) (k : Out → Rs β) : Out → Rs β
  | .nx e => k (.nx (sealE e i))
  | o => k o
@[simp ↓] theorem cO_seal {k : Out → Rs β} : cO (fSeal i f) env h k = cO f env h (seaK i k) := by
  unfold cO fSeal
  rw [on_bind]
  refine congrArg _ (funext fun o => ?_)
  cases o <;> rfl
end
end Dn
namespace Dn
open PySem PySem.Spec L2 A1 A2 A3
mutual
def pureD : PyData → Bool
  | .none => true
  | .bool _ => true
  | .int _ => true
  | .str _ => true
  | .tuple ds => pureA ds
  | _ => false
def pureA : List PyData → Bool
  | [] => true
  | d :: ds => pureD d && pureA ds
end
section
variable {K : PySem.W.Frag} {H0 H0' F0 F H : Hp} {n m : Bool} {env : Env} {σ : St}
mutual
theorem is_pure0 : ∀ (d : PyData) {v : V}, pureD d = true → Is K H0 n F v d → Is K H0' m F v d
  | .none, v, _, h => by cases h; exact .non
  | .bool b, v, _, h => by cases h; exact .bl b
  | .int i, v, _, h => by cases h; exact .int i
  | .str x, v, _, h => by cases h; exact .str x
  | .tuple ds, v, p, h => by
    unfold pureD at p
    cases h with
    | tup h a => exact .tup h (isA_pure0 ds p a)
  | .list _, _, p, _ => by simp only [pureD] at p; cases p
  | .dict _, _, p, _ => by simp only [pureD] at p; cases p
theorem isA_pure0 : ∀ (ds : List PyData) {vs : List V}, pureA ds = true → IsA K H0 n F vs ds → IsA K H0' m F vs ds
  | [], vs, _, h => by cases h; exact .nil
  | d :: ds, vs, p, h => by
    unfold pureA at p
    rw [Bool.and_eq_true] at p
    cases h with
    | cons h t => exact .cons (is_pure0 d p.1 h) (isA_pure0 ds p.2 t)
end
theorem Rel.flagO {v : V} {ds : List PyData} (r : Rel K H0 F0 (env ++ [some (.ow n ds)]) (σ ++ [some v]) F H) (p : pureA ds = true) : Rel K H0 F0 (env ++ [some (.ow m ds)]) (σ ++ [some v]) F H := by
  obtain ⟨fp, r⟩ := r
  refine ⟨fp, { r with len := by simpa using r.len, sl := fun i s q => ?_ }⟩
  by_cases z : i < env.length
  · rw [List.getElem?_append_left z] at q
    exact r.sl i s (by rw [List.getElem?_append_left z]; exact q)
  · rw [List.getElem?_append_right (by omega)] at q
    have hi : i - env.length = 0 := by
      cases w : i - env.length with
      | zero => rfl
      | succ j => rw [w] at q; cases q
    rw [hi] at q
    cases q
    obtain ⟨u, h1, h2⟩ := r.sl i (.ow n ds) (by rw [List.getElem?_append_right (by omega), hi]; rfl)
    obtain ⟨a, xs, e, k1, k2, k3⟩ := h2
    exact ⟨u, h1, a, xs, e, k1, k2, isA_pure0 ds p k3⟩
def pureR : R → R
  | .sh n d => .sh (n || pureD d) d
  | .nw n ds => .nw (n || pureA ds) ds
  | .own i => .own i
theorem RelR.pure {v : V} {r : R} (h : RelR K H0 F0 env σ F H v r) : RelR K H0 F0 env σ F H v (pureR r) := by
  cases r with
  | sh n d =>
    refine ⟨h.1, ?_⟩
    show Is K H0 (n || pureD d) F v d
    cases n with
    | true => exact h.2
    | false =>
      cases p : pureD d with
      | false => exact h.2
      | true => exact is_pure0 d p h.2
  | nw n ds =>
    cases n with
    | true => exact h
    | false =>
      show RelR K H0 F0 env σ F H v (.nw (false || pureA ds) ds)
      cases p : pureA ds with
      | false => exact h
      | true => exact Rel.flagO h p
  | own i => exact h
end
def fPure (f : FE) : FE := fun env => (f env).bind fun p => .ok (p.1, pureR p.2)
section
variable {X : Cx} {W : WX} {e : Expr} {f : FE}
end
section
variable {β : Type} {h : HX β} {env : Env} {f : FE} {k : Env → R → Rs β}
@[simp ↓] theorem cE_pure : cE (fPure f) env h k = cE f env h fun e r => k e (pureR r) := by
  unfold cE fPure
  rw [on_bind]; rfl
end
end Dn
namespace Dn
open PySem PySem.Spec L2 A1 A2 A3
structure EnKT (K : PySem.W.Frag) (H0 F : Hp) (kvs : List (Key × V)) (q : List (PyData × PyData)) : Prop where
  vals : IsA K H0 true F (kvs.map (·.2)) (q.map (·.2))
  keys : q.map (·.1) = kvs.map fun p => kD p.1
section
variable {K : PySem.W.Frag} {H0 F F' H : Hp}
theorem EnKT.to {kvs : List (Key × V)} {q : List (PyData × PyData)} (h : EnKT K H0 F kvs q) (e : Same F F') : EnKT K H0 F' kvs q := ⟨h.vals.to e, h.keys⟩
theorem EnKT.len {kvs : List (Key × V)} {q : List (PyData × PyData)} (h : EnKT K H0 F kvs q) : kvs.length = q.length := by
  have := h.vals.length
  simpa using this
theorem ek_putT {k : Key} {z : V} {dv : PyData} (iz : Is K H0 true F z dv) : ∀ {kvs : List (Key × V)} {q : List (PyData × PyData)}, EnKT K H0 F kvs q → (kvs.any fun kv => decide (kv.1 = k)) = (q.any fun e => decide (keyK e.1 = keyK (kD k))) ∧
    EnKT K H0 F (kvs.map fun kv => if kv.1 = k then (kv.1, z) else kv) (q.map fun e => if keyK e.1 = keyK (kD k) then (e.1, dv) else e)
  | [], [], h => ⟨rfl, h⟩
  | [], _ :: _, h => by cases h.keys
  | _ :: _, [], h => by cases h.keys
  | p :: kvs, e :: q, ⟨h1, h2⟩ => by
    rw [List.map_cons, List.map_cons] at h1 h2
    obtain ⟨e1, e2⟩ := List.cons.inj h2
    cases h1 with
    | cons i t =>
      obtain ⟨g1, g2, g3⟩ := ek_putT (k := k) iz ⟨t, e2⟩
      by_cases y : p.1 = k
      · have y2 : keyK e.1 = keyK (kD k) := by rw [e1, y]
        refine ⟨by simp only [List.any_cons, y, y2, decide_true, Bool.true_or], ?_⟩
        simp only [List.map_cons, if_pos y2, if_pos y]
        exact ⟨.cons iz g2, by simp only [List.map_cons]; rw [e1, g3]⟩
      · have y2 : ¬ keyK e.1 = keyK (kD k) := by rw [e1, keyK_D, keyK_D]; exact fun w => y (Option.some.inj w)
        refine ⟨by simp only [List.any_cons, y, y2, decide_false, Bool.false_or]; exact g1, ?_⟩
        simp only [List.map_cons, if_neg y2, if_neg y]
        exact ⟨.cons i g2, by simp only [List.map_cons]; rw [e1, g3]⟩
theorem EnKT.put {kvs : List (Key × V)} {q : List (PyData × PyData)} {k : Key} {z : V} {dv : PyData} (h : EnKT K H0 F kvs q) (iz : Is K H0 true F z dv) : EnKT K H0 F (L2.putK kvs k z) (putB keyK q (kD k) dv) := by
  obtain ⟨e1, e2⟩ := ek_putT (k := k) iz h
  unfold L2.putK putB
  rw [e1]
  split
  · exact e2
  · refine ⟨?_, ?_⟩
    · rw [List.map_append, List.map_append]; exact h.vals.append (.cons iz .nil)
    · rw [List.map_append, List.map_append, h.keys]; rfl
end
def fDkTL (own : List Nat) (g : FG) (t : FT) (fk fv : FV) : List Dv → Env → List (PyData × PyData) → Rs (Env × List (PyData × PyData))
  | [], e, acc => .ok (e, acc)
  | x :: xs, e, acc => (noex (g x e)).bind fun e1 => (noex (t e1)).bind fun b => if b = true then (noex (fk e1)).bind fun p => (noex (fv p.1)).bind fun q => (match keyK p.2.2 with
      | some _ => grd (q.2.1 && decide (acc.length < 1000000)) (fDkTL own g t fk fv xs (wipeE q.1 own) (putB keyK acc p.2.2 q.2.2))
      | none => .bad) else fDkTL own g t fk fv xs (wipeE e1 own) acc
def fDkT (own : List Nat) (it : FA) (g : FG) (t : FT) (fk fv : FV) : FE := fun env => (it env).bind fun p => grd (okOwn p.1 own) ((fDkTL own g t fk fv p.2 (wipeE p.1 own) []).bind fun q => .ok (backE p.1 q.1 own, .sh true (encK q.2)))
section
variable {K : PySem.W.Frag} {mg : Str → Option Value} {W : WX} {own is : List Nat} {fi : FA} {g : FG} {t : FT} {fk fv : FV} {σ : St} {H : Hp} {Q : VK}
end
section
variable {X : Cx} {W : WX} {kx vx tg iter : Expr} {ifs : List Expr} {scope : Scope} {own : List (Str × Nat)} {pos : PySem.Pos} {is : List Nat} {fi : FA} {g : FG} {t : FT} {fk fv : FE}
end
section
variable {β : Type} {h : HX β} {env e : Env} {va vb : FV}
def cDkT (own : List Nat) (g : FG) (t : FT) (fk fv : FV) (xs : List Dv) (e : Env) (h : HX β) (k : Env → R → Rs β) : Rs β := grd (okOwn e own) (on (fDkTL own g t fk fv xs (wipeE e own) []) h fun q => k (backE e q.1 own) (.sh true (encK q.2)))
@[simp ↓] theorem cE_dkT {own : List Nat} {g : FG} {t : FT} {f : FA} {k : Env → R → Rs β} : cE (fDkT own f g t va vb) env h k = cA f env h fun e xs => cDkT own g t va vb xs e h k := by
  unfold cE cA cDkT fDkT
  rw [on_bind]
  refine congrArg _ (funext fun p => ?_)
  rw [on_grd, on_bind]; rfl
end
end Dn
namespace Dn
open PySem PySem.Spec L2 A1 A2 A3
def fCallIxO (S : SF) (fa : FA) (j : Nat) : FE := fun env => (fa env).bind fun p => match S (p.2.map fun d => d.2) with
  | .ok (.sh true d) => (match entsK d, shD p.1 j with
    | some q, some dk => (match keyK dk with
      | some k => (match lookK q k with
        | some (.list ds) => grd (pureA ds) (.ok (p.1, .nw true ds))
        | _ => .bad)
      | none => .bad)
    | _, _ => .bad)
  | _ => .bad
section
variable {K : PySem.W.Frag} {H0 H0' F : Hp} {n m : Bool} {a : Addr} {ys : List V}
def less (F : Hp) (a : Addr) : Hp := fun b => if b = a then none else F b
theorem less_ne {F : Hp} {a b : Addr} (h : b ≠ a) : less F a b = F b := if_neg h
mutual
theorem is_less : ∀ (d : PyData) {v : V}, F a = some (.lst ys) → pureD d = true → Is K H0 n F v d → Is K H0' m (less F a) v d
  | .none, v, _, _, h => by cases h; exact .non
  | .bool b, v, _, _, h => by cases h; exact .bl b
  | .int i, v, _, _, h => by cases h; exact .int i
  | .str x, v, _, _, h => by cases h; exact .str x
  | .tuple ds, v, e, p, h => by
    unfold pureD at p
    cases h with
    | tup h t =>
      obtain ⟨o, h1, h2⟩ := h
      refine .tup ⟨o, ?_, h2⟩ (isA_less ds e p t)
      rw [less_ne]
      · exact h1
      · intro z
        subst z
        rw [e] at h1
        cases h1
  | .list _, _, _, p, _ => by simp only [pureD] at p; cases p
  | .dict _, _, _, p, _ => by simp only [pureD] at p; cases p
theorem isA_less : ∀ (ds : List PyData) {vs : List V}, F a = some (.lst ys) → pureA ds = true → IsA K H0 n F vs ds → IsA K H0' m (less F a) vs ds
  | [], vs, _, _, h => by cases h; exact .nil
  | d :: ds, vs, e, p, h => by
    unfold pureA at p
    rw [Bool.and_eq_true] at p
    cases h with
    | cons h t => exact .cons (is_less d e p.1 h) (isA_less ds e p.2 t)
end
end
section
variable {X : Cx} {W : WX} {x y : Str} {p p2 pos pos2 : PySem.Pos} {e : Expr} {es : List Expr} {fa : FA} {k : Nat} {f : Addr} {fd : FuncData} {ps : List Str} {S : SF}
end
section
variable {β : Type} {h : HX β} {env : Env} {fa : FA} {S : SF} {j : Nat} {k : Env → R → Rs β}
end
end Dn
namespace Dn
open PySem PySem.Spec L2
section
variable {β : Type} {h : HX β} {env e e2 : Env} {va vb : FV} {fa : FA} {S : SF} {j : Nat} {k : Env → R → Rs β} {n : Bool}
def cixK (r : Rs R) (e : Env) (j : Nat) (k : Env → R → Rs β) : Rs β := match r with
  | .ok (.sh true d) => (match entsK d, shD e j with
    | some q, some dk => (match keyK dk with
      | some kk => (match lookK q kk with
        | some (.list ds) => grd (pureA ds) (k e (.nw true ds))
        | _ => .bad)
      | none => .bad)
    | _, _ => .bad)
  | _ => .bad
@[simp ↓] theorem cE_ixO : cE (fCallIxO S fa j) env h k = cA fa env h fun e xs => cixK (S (xs.map fun d => d.2)) e j k := by
  unfold cE cA fCallIxO
  rw [on_bind]
  refine congrArg _ (funext fun p => ?_)
  obtain ⟨e, xs⟩ := p
  dsimp only
  unfold cixK
  cases S (xs.map fun d => d.2) with
  | bad => rfl
  | ex e y => rfl
  | ch m f => rfl
  | ok r =>
    cases r with
    | nw n ds => rfl
    | own i => rfl
    | sh n d =>
      cases n with
      | false => rfl
      | true =>
        dsimp only
        cases entsK d with
        | none => rfl
        | some q =>
          cases shD e j with
          | none => rfl
          | some dk =>
            dsimp only
            cases keyK dk with
            | none => rfl
            | some kk =>
              dsimp only
              cases lookK q kk with
              | none => rfl
              | some d2 =>
                cases d2 with
                | list ds => dsimp only; rw [on_grd]; rfl
                | _ => rfl
end
end Dn
namespace Dn
open PySem PySem.Spec L2 A1 A2 A3
section
variable {K : PySem.W.Frag} {H0 F0 F H : Hp} {env : Env} {σ : St} {i : Nat} {s : Sl} {v : V}
theorem Rel.putRg {F' H' : Hp} {d : PyData} (r : Rel K H0 F0 env σ F H) (ex : Ext F H F' H') (h : VRes K H H F' H' v (.sh true d)) : Rel K H0 F0 (env.set i (some (.rg d))) (σ.set i (some v)) F H' := by
  have h : Is K H true F' v d := h
  obtain ⟨fp0, rf0⟩ := id r
  have fnone : ∀ a, H a = none → F a = none := fun a z => same_none r.fz z
  have hnone : ∀ a, H a = none → H0 a = none := fun a z => same_none r.base z
  have r2 : RelF K H0 F0 env σ F H' fp0 := rf0.grow ex.h (Same.refl F) (r.fz.trans ex.h) (fun i a z => (rf0.out i a z).1) fun _ z => .inl z
  have hnew : ∀ a, F' a ≠ none → F a = none → H a = none := fun a z1 z2 => (ex.new a z1).resolve_left fun z => z z2
  refine Rel.putS ⟨_, r2.push (g := fun a => F' a ≠ none ∧ F a = none) ⟨F', ex.f, ex.fh, fun a z => ?_, ?_⟩ (fun j a _ ha z => ?_) fun a z => ?_⟩
  · cases q : F a with
    | none => exact .inr ⟨z, q⟩
    | some o => exact .inl fun z => nomatch z
  · exact Is.le ⟨Same.refl F', id, fun _ a _ z => fnone a z⟩ h
  · exact (rf0.out j a ha).2.2.ne (hnew a z.1 z.2)
  · exact ⟨z.2, hnone a (hnew a z.1 z.2), ex.fh.ns z.1⟩
end
section
variable {X : Cx} {W : WX} {e : Expr} {es : List Expr} {f : FE} {k : Nat} {fA : Addr} {fd : FuncData} {ps ks : List Str} {pos pos' ppos spos : PySem.Pos} {x y : Str} {p : PySem.Pos} {S : SF} {ga gk : FA}
def fCallRgK (i np nk : Nat) (S : SF) (f g : FA) : FS := fun env => (f env).bind fun p => (g p.1).bind fun q => grd (decide (p.2.length = np) && decide (q.2.length = nk)) (match S ((p.2 ++ q.2).map fun d => d.2) with
  | .ok (.sh true d) => .ok (.nx (q.1.set i (some (.rg d))))
  | .ex _ x => .ex q.1 x
  | _ => .bad)
def rgLst (env : Env) (i : Nat) (c : Int) : Option (List PyData) := match env[i]? with
  | some (some (.rg (.tuple ds))) => match atI ds c with
    | some (.list es) => some es
    | _ => none
  | _ => none
def fAppRg (i : Nat) (c : Int) (f : FV) : FS := fun env => match rgLst env i c with
  | some _ => (f env).bind fun p => match rgLst p.1 i c with
    | some es => grd (decide (es.length < 1000000)) (.ok (.nx (p.1.set i none)))
    | none => .bad
  | none => .bad
theorem rgLst_is {K : PySem.W.Frag} {H0 F0 F H : Hp} {env : Env} {σ : St} {fp : Nat → Addr → Prop} {i : Nat} {c : Int} {es : List PyData} (h : rgLst env i c = some es) (r : RelF K H0 F0 env σ F H fp) :
    ∃ a b xs zs, σ[i]? = some (some (.ref a)) ∧ Tz H a xs ∧ atI xs c = some (.ref b) ∧ fp i b ∧ H b = some (.lst zs) ∧ zs.length = es.length := by
  unfold rgLst at h
  split at h
  · rename_i ds h0
    split at h
    · rename_i es0 h1
      cases h
      obtain ⟨v, hv, G, g1, g2, g3, g4⟩ := r.sl i _ h0
      cases g4 with
      | tup ht ha =>
        rename_i a xs
        obtain ⟨w, w1, w2⟩ := atI_get ha h1
        cases w2 with
        | lst hs hw hb =>
          rename_i b zs
          obtain ⟨y1, y2⟩ := hw rfl
          exact ⟨a, b, xs, zs, hv, ht.to g2.p, w1, (g3 b (by rw [y2]; exact fun z => nomatch z)).resolve_left fun z => z y1, g2.p _ _ y2, hb.length⟩
    · cases h
  · cases h
theorem s_appRg (i : Nat) {c : Int} {cj : Nat} {apos cpos npos ipos : PySem.Pos} (he : DE X W e f) (hi : X.N[i]? = some x := by rfl) (hv : Vis X.env.scope x := by first | exact Or.inl rfl | exact Or.inr (Or.inl rfl) | exact Or.inr (Or.inr rfl)) (hd : (x == ("__debug__" : Str)) = false := by decide) (hcd : (x == ("__classdict__" : Str)) = false := by decide)
    (hp : PlainIx (.Constant (.int c) cj ipos) := by exact fun _ _ => rfl)
    (hsw : swapsWith (.Call (.Attribute (.Subscript (.Name x npos) (.Constant (.int c) cj ipos) spos) "append" apos) [e] [] cpos) none pos.line X.env = pure false := by rfl)
    (h1 : attributeBase (.Subscript (.Name x npos) (.Constant (.int c) cj ipos) spos) "append" X.env (eval (.Subscript (.Name x npos) (.Constant (.int c) cj ipos) spos) X.env) = eval (.Subscript (.Name x npos) (.Constant (.int c) cj ipos) spos) X.env := by rfl)
    (h2 : (((backTo cpos (starEach [e] X.env)).all fun x => !x.1) && (backToKw cpos (keywordEach [] X.env)).all (fun x => x.1.isSome) && decide ([e].length + ([] : List Keyword).length + (if ([] : List Keyword).isEmpty = true then 0 else 1) < 30)) = true := by rfl)
    (h3 : (apos.endLine == cpos.line) = true := by rfl) (h4 : starEach [e] X.env = (false, eval e X.env) :: starEach [] X.env := by rfl) (h5 : (backTo cpos (starEach [] X.env)).any (fun x => x.1) = false := by rfl) :
    DS X W (.Expr (.Call (.Attribute (.Subscript (.Name x npos) (.Constant (.int c) cj ipos) spos) "append" apos) [e] [] cpos) pos) (fAppRg i c (st f)) :=
  ps_le (ps_expr (pe_bm PySem.F.plainAttrs_list PySem.F.slot_list_append PySem.F.type_list_append mt_append (pe_ix ix_tup (pe_var hi hv hd hcd) pe_int hp) (pa_cons he.d pa_nil h4) h1 h2 h3 h4 h5) hsw) fun D σ H ⟨H0, F0, F, env, r, q⟩ => by
    unfold fAppRg at q
    split at q
    · rename_i es0 h0
      obtain ⟨fp, rf⟩ := id r
      obtain ⟨a, b, xs, zs, k1, k2, k3, k4, k5, k6⟩ := rgLst_is h0 rf
      refine ⟨.ref a, k1, a, xs, c, .ref b, rfl, rfl, k2.sq, k3, .inl ⟨rfl, zs, .inl (.inl k5)⟩, H0, F0, F, env, r, ?_⟩
      refine Rs.post_mono (Rs.post_bind.mp q) (fun p hp y F1 H1 r1 iy e1 e2 => ?_) fun _ _ x => x.p (Same.refl F)
      split at hp
      · rename_i es h1
        obtain ⟨hz, hp⟩ := grd_post hp
        have hz := of_decide_eq_true hz
        obtain ⟨fp1, rf1⟩ := id r1
        obtain ⟨a1, b1, xs1, zs1, l1, l2, l3, l4, l5, l6⟩ := rgLst_is h1 rf1
        rw [k1] at l1
        cases l1
        have hx : xs = xs1 := by
          obtain ⟨o, o1, o2⟩ := k2
          obtain ⟨o', o3, o4⟩ := l2
          have := e1.at_ _ _ o1 rfl
          rw [this] at o3
          cases o3
          rfl
        subst hx
        rw [k3] at l3
        cases l3
        refine ⟨b, zs1, y, rfl, rfl, l5, million (by rw [l6]; exact hz), ?_⟩
        refine hp σ F1 _ ⟨_, rf1.scratch fun a ha => upd_ne fun z => ha (by rw [z]; exact l4)⟩ e2
      · exact hp.elim
    · exact q.elim
end
end Dn
namespace Dn
open PySem PySem.Spec L2
section
variable {β : Type} {h : HX β} {env e : Env} {a b : FA} {v : FV} {S : SF} {i : Nat} {c : Int} {d : PyData} {k : Out → Rs β}
def rgK (r : Rs R) (i : Nat) (e : Env) (h : HX β) (k : Out → Rs β) : Rs β := match r with
  | .ok (.sh true d) => cP i e (some (.rg d)) fun e => k (.nx e)
  | .ex _ x => h e x
  | _ => .bad
theorem rgK_s {r : Rs R} (z : r = .ok (.sh true d)) : rgK r i e h k = cP i e (some (.rg d)) fun e => k (.nx e) := by rw [z]; rfl
@[simp ↓] theorem cO_callRgK {np nk : Nat} : cO (fCallRgK i np nk S a b) env h k = cA a env h fun e ps => cA b e h fun e qs => cLen np ps 0 (cLen nk qs 0 (cApp ps qs fun l => cD l fun ds => rgK (S ds) i e h k)) := by
  unfold cO cA fCallRgK
  rw [on_bind]
  refine congrArg _ (funext fun p => ?_)
  rw [on_bind]
  refine congrArg _ (funext fun q => ?_)
  dsimp only
  rw [on_grd, cLen_eq, cLen_eq, Nat.zero_add, Nat.zero_add, grd_a]
  unfold cApp
  dsimp only
  rw [cD_eq]
  cases S ((p.2 ++ q.2).map fun d => d.2) with
  | bad => rfl
  | ex e x => rfl
  | ch m f => rfl
  | ok r => cases r with
    | sh n d => cases n <;> rfl
    | own i => rfl
    | nw n d => rfl
end
end Dn
namespace Dn
open PySem PySem.Spec L2 A1 A2 A3
section
variable {X : Cx} {W : WX} {e : Expr} {pos pos' : PySem.Pos} {x : Str} {S : SF} {ga : FA} {n : Nat}
def fCallRg (i : Nat) (S : SF) (f : FA) : FS := fun env => (f env).bind fun p => match S (p.2.map fun d => d.2) with
  | .ok (.sh true d) => .ok (.nx (p.1.set i (some (.rg d))))
  | .ex _ x => .ex p.1 x
  | _ => .bad
theorem s_callRg (i : Nat) (hlen : ∀ ds, ds.length ≠ n → S ds = .bad) (he : PE X e (tCallG X.K X.mg W n S ga)) (hN : X.N.Nodup) (hi : X.N[i]? = some x := by rfl) (hx : L2.Loc X.env.scope x := by first | exact Or.inl rfl | exact Or.inr rfl) (hs : swapsWith e (some (.Name x pos')) pos.line X.env = pure false := by rfl)
    (hf : X.fn x = true ∨ X.env.scope.names.lookup x = some .local := by first | exact .inl rfl | exact .inr rfl) : DS X W (.Assign [.Name x pos'] e pos) (fCallRg i S ga) :=
  ps_le (ps_set hN hi hx he hs hf) fun D σ H ⟨H0, F0, F, env, r, q⟩ => by
    refine ⟨H0, F0, F, env, r, ?_⟩
    unfold fCallRg at q
    refine Rs.post_mono (Rs.post_bind.mp q) (fun p hp vs F1 H1 r1 ha e1 e2 => ?_) fun _ _ z => z.p (Same.refl F)
    have hS : S (p.2.map fun d => d.2) ≠ .bad := fun z => by rw [z] at hp; exact hp.elim
    have hl : (p.2.map fun d => d.2).length = n := by
      by_cases y : (p.2.map fun d => d.2).length = n
      · exact y
      · exact absurd (hlen _ y) hS
    refine ⟨F1, p.2.map fun d => d.2, by rw [ha.length]; simpa using hl, r1.fz, r1.tb, isA_weak ha, ?_⟩
    cases z : S (p.2.map fun d => d.2) with
    | bad => exact absurd z hS
    | ok res =>
      rw [z] at hp
      cases res with
      | nw n d => exact hp.elim
      | sh n d =>
        cases n with
        | true => exact fun v F' H' ex hv => hp _ F1 H' (r1.putRg ex hv) e2
        | false => exact hp.elim
      | own i => exact hp.elim
    | ch _ _ => rw [z] at hp; exact hp.elim
    | ex e x =>
      rw [z] at hp
      exact fun cls dO H' e3 hx => hp cls dO σ F1 H' (r1.heap e3) e2 hx
end
section
variable {β : Type} {env e : Env} {h : HX β} {a : FA} {i : Nat} {c : Int}
@[simp ↓] theorem cO_callRg {S : SF} {k : Out → Rs β} : cO (fCallRg i S a) env h k = cA a env h fun e ps => cD ps fun ds => rgK (S ds) i e h k := by
  unfold cO cA fCallRg
  rw [on_bind]
  refine congrArg _ (funext fun p => ?_)
  dsimp only
  rw [cD_eq]
  cases S (p.2.map fun d => d.2) with
  | bad => rfl
  | ex e x => rfl
  | ch m f => rfl
  | ok r => cases r with
    | nw n d => rfl
    | own i => rfl
    | sh n d => cases n <;> rfl
theorem cO_appRgI {es : List PyData} {z : Int} {k : Out → Rs β} (h0 : rgLst env i c = some es) (hl : es.length < 1000000) : cO (fAppRg i c (st (fC (.int z)))) env h k = k (.nx (env.set i none)) := by
  have e1 : fAppRg i c (st (fC (.int z))) env = .ok (.nx (env.set i none)) := by
    unfold fAppRg
    rw [h0]
    show (match rgLst env i c with
      | some es => grd (decide (es.length < 1000000)) (Rs.ok (Out.nx (env.set i none)))
      | none => .bad) = _
    rw [h0]
    show grd (decide (es.length < 1000000)) _ = _
    rw [decide_eq_true hl]
    rfl
  unfold cO
  rw [e1]
  rfl
end
end Dn
namespace Dn
open PySem PySem.Spec L2
def e1_law_draws : FE :=
    (fVar 6)
def l1_law_draws : FS :=
    (fFg [4, 5, 7, 8] (fSeq (fSet 5 (fC (.int 0)))
    (fSeq (fIfS (fB (rd (f2 gGt (rd (fB1 (g1 bLen) (fCons (rd (fVar 2)) fNil))) (rd (fC (.int 0)))))) (fSeq (fSet 7 (f2 gMod (rd (fB1 (g1 bInt) (fCons (rd (fVar 4)) fNil))) (rd (fB1 (g1 bLen) (fCons (rd (fVar 2)) fNil)))))
    (fIfS (fB (rd (f2 gGe (rd (f2 gIx (rd (fVar 2)) (rd (fVar 7)))) (rd (f2 gPow (rd (fC (.int 10))) (rd (fC (.int 18)))))))) (fSeq (fSet 5 (f2 gMod (rd (fB1 (g1 bInt) (fCons (rd (f2 gIx (rd (fVar 2)) (rd (fVar 7)))) fNil))) (rd (fC (.int 1000)))))
    (fPutIx 2 (rd (fVar 7)) (st (f2 gFdv (rd (f2 gIx (rd (fVar 2)) (rd (fVar 7)))) (rd (fC (.int 1000))))))) (fSeq (fSet 8 (f2 gMod (rd (fB1 (g1 bInt) (fCons (rd (f2 gAdd (rd (f2 gAdd (rd (f2 gMul (rd (f2 gIx (rd (fVar 2)) (rd (fVar 7)))) (rd (fC (.int 48271))))) (rd (f2 gMul (rd (fVar 4)) (rd (fC (.int 69621))))))) (rd (fC (.int 11))))) fNil))) (rd (fC (.int 2147483647)))))
    (fSeq (fSet 8 (f2 gMod (rd (fB1 (g1 bInt) (fCons (rd (f2 gAdd (rd (f2 gMul (rd (fVar 8)) (rd (fC (.int 16807))))) (rd (fVar 7)))) fNil))) (rd (fC (.int 2147483629)))))
    (fSet 5 (f2 gMod (rd (fB1 (g1 bInt) (fCons (rd (f2 gFdv (rd (fVar 8)) (rd (fC (.int 7))))) fNil))) (rd (fC (.int 1000))))))))) fNext)
    (fApp 3 (st (fVar 5))))))
def b_law_draws : FS :=
    (fSeq (fSet 2 (fLc [6] (fIt (st (fVar 0))) (gN 6) fYes (st e1_law_draws)))
    (fSeq (fSet 3 (fLst fNil))
    (fSeq (fFor (fRg1 (fCons (rd (fVar 1)) fNil)) (gN 4) l1_law_draws)
    (fRet (fVar 3)))))
def S_law_draws : SF := runF 9 2 b_law_draws
end Dn
namespace Dn
open PySem PySem.Spec L2
def l1_law_town : FS :=
    (fFg [6] (fSeq (fIfS (fB (rd (f2 gLt (rd (f2 gMod (rd (fB1 (g1 bInt) (fCons (rd (f2 gIx (rd (fVar 0)) (rd (fVar 4)))) fNil))) (rd (fC (.int 5))))) (rd (fC (.int 3)))))) (fApp 3 (st (fTup (fCons (st (fVar 5)) (fCons (st (fVar 6)) (fCons (st (f2 gAdd (rd (fC (.int 1))) (rd (f2 gMod (rd (fB1 (g1 bInt) (fCons (rd (f2 gFdv (rd (f2 gIx (rd (fVar 0)) (rd (fVar 4)))) (rd (fC (.int 5))))) fNil))) (rd (f2 gIx (rd (fLst (fCons (st (fC (.int 3))) (fCons (st (fC (.int 9))) fNil)))) (rd (f2 gMod (rd (fB1 (g1 bInt) (fCons (rd (f2 gFdv (rd (f2 gIx (rd (fVar 0)) (rd (fVar 4)))) (rd (fC (.int 45))))) fNil))) (rd (fC (.int 2))))))))))) fNil)))))) fNext)
    (fSet 4 (f2 gAdd (rd (fVar 4)) (rd (fC (.int 1)))))))
def l2_law_town : FS :=
    (fFg [5, 6] (fFor (fRg2 (fCons (rd (f2 gAdd (rd (fVar 5)) (rd (fC (.int 1))))) (fCons (rd (fVar 2)) fNil))) (gN 6) l1_law_town))
def b_law_town : FS :=
    (fSeq (fSet 2 (f2 gAdd (rd (fC (.int 1))) (rd (f2 gMod (rd (fB1 (g1 bInt) (fCons (rd (f2 gIx (rd (fVar 0)) (rd (fC (.int 0))))) fNil))) (rd (fVar 1))))))
    (fSeq (fSet 3 (fLst fNil))
    (fSeq (fSet 4 (fC (.int 1)))
    (fSeq (fFor (fRg1 (fCons (rd (fVar 2)) fNil)) (gN 5) l2_law_town)
    (fRet (fTup (fCons (st (fVar 2)) (fCons (st (fVar 3)) fNil))))))))
def S_law_town : SF := runF 7 2 b_law_town
end Dn
namespace Dn
open PySem PySem.Spec L2
def e1_law_text : FE :=
    (f2 gAdd (rd (fJoin (rd (fC (.str " "))) (rd (fVar 1)))) (rd (fC (.str "\n"))))
def b_law_text : FS :=
    (fRet (fJoin (rd (fC (.str ""))) (rd (fLc [1] (fIt (st (fVar 0))) (gN 1) fYes (st e1_law_text)))))
def S_law_text : SF := runF 2 1 b_law_text
end Dn
namespace Dn
open PySem PySem.Spec L2
def e1_law_lines : FE :=
    (fB1 (g1 bStr) (fCons (rd (fVar 2)) fNil))
def e2_law_lines : FE :=
    (f2 gAdd (rd (fLst (fCons (st (fC (.str "road"))) fNil))) (rd (fLc [2] (fIt (st (fVar 1))) (gN 2) fYes (st e1_law_lines))))
def b_law_lines : FS :=
    (fRet (f2 gAdd (rd (fLst (fCons (st (fLst (fCons (st (fC (.str "places"))) (fCons (st (fB1 (g1 bStr) (fCons (rd (f2 gIx (rd (fVar 0)) (rd (fC (.int 0))))) fNil))) fNil)))) fNil))) (rd (fLc [1] (fIt (st (f2 gIx (rd (fVar 0)) (rd (fC (.int 1)))))) (gN 1) fYes (st e2_law_lines)))))
def S_law_lines : SF := runF 3 1 b_law_lines
end Dn
namespace Dn
open PySem PySem.Spec L2 A1 A2 A3
structure ErrC (K : PySem.W.Frag) (C : Addr) : Prop where
  cl : (PySem.W.clsIn K C).isSome = true
  ga : PySem.W.findIn K (.ref C) "__getattribute__" = some (some (.builtin "BaseException.__getattribute__"))
  gg : PySem.W.findIn K (.ref C) "__getattr__" = some none
  su : PySem.W.subIn K (.ref C) (.type "BaseException") = some true
  ca : PySem.W.findIn K (.ref C) "__class__" = some (some (.builtin "object.__class__"))
  ge : PySem.W.specialIn K (.builtin "object.__class__") "__get__" = some (some (.builtin "getset_descriptor.__get__"))
  ta : PySem.W.takesIn K (.builtin "object.__class__") = some true
  ob : PySem.W.mroIn K C (.type "object") = some true
  hd : PySem.W.hasDictIn K C = true
def excD : PyData → Option (Int × List (PyData × PyData))
  | .dict ((.int 2, .int c) :: r) => some (c, r)
  | _ => none
section
variable {K : PySem.W.Frag} {H0 F H : Hp} {n : Bool} {v : V} {d : PyData}
end
section
variable {X : Cx} {W : WX} {e : Expr} {es : List Expr} {pos p : PySem.Pos} {f : FE}
def fIsX (t : List (Addr × Bool)) (f : FV) : FE := fun env => (f env).bind fun q => match excD q.2.2 with
  | some (c, _) => match t.find? fun p => decide (((p.1 : Nat) : Int) = c) with
    | some p => .ok (q.1, .sh true (.bool p.2))
    | none => .bad
  | none => .bad
def fldL (nm : Str) : List (PyData × PyData) → Option Int
  | (.str k, .int i) :: r => if nm == k then some i else fldL nm r
  | _ => none
def fErr (cs : List Addr) (nm : Str) (f : FV) : FE := fun env => (f env).bind fun q => match excD q.2.2 with
  | some (c, r) => grd (cs.any fun C => decide (((C : Nat) : Int) = c)) (match fldL nm r with
    | some i => .ok (q.1, .sh true (.int i))
    | none => .bad)
  | none => .bad
def spI (C : Addr) (names : List Str) : Sp := fun vs H Q _ => ∃ (a : Addr) (is : List Int), vs = .ref a :: is.map V.int ∧ is.length = names.length ∧ H a = some (exo a C none) ∧
  ∀ dx H', H dx = none → dx ≠ a → H' a = some (exo a C (some dx)) → H' dx = some (exd dx ((names.zip is).reverse.map fun p => (p.1, V.int p.2))) → (∀ b, b ≠ a → b ≠ dx → H' b = H b) → Q .non H'
theorem ints_map {H0 F : Hp} {K : PySem.W.Frag} {H : Hp} : ∀ {vs : List V} {ps : List Dv} {is : List Int}, All2 (IsV K H0 F H) vs ps → intsOf (ps.map fun d => d.2) = some is → vs = is.map V.int
  | [], [], is, _, e => by cases e; rfl
  | v :: vs, (n, d) :: ps, is, h, e => by
    cases h with
    | cons h t =>
      rw [List.map_cons] at e
      unfold intsOf at e
      split at e
      · rename_i z; cases z
      · rename_i b ds z
        obtain ⟨z1, z2⟩ := List.cons.inj z
        have z1 : d = .int b := z1
        subst z1
        have hv : Is K H0 n F v (.int b) := h
        cases q : intsOf ds with
        | none => rw [q] at e; cases e
        | some cs =>
          rw [q] at e; cases e
          cases hv
          rw [List.map_cons, ints_map t (by rw [z2]; exact q)]
      · cases e
end
section
variable {P : Program} {w : World} {K : PySem.W.Frag} {mg : Str → Option Value} {base : Heap}
theorem init1 {qual : Str} {st : Stmt} {fI C : Addr} {fd : FuncData} {nm : Str} {p1 p2 p3 p4 : PySem.Pos} (F : Fun K "__init__" qual st fI fd) (S : FnScope ["self", nm] ["self", nm] (defScope st)) (hbody : defBody st = [.Assign [.Attribute (.Name "self" p1) nm p2] (.Name nm p3) p4]) (T : OexC K C) (hno : PySem.W.findIn K (.ref C) nm = some none)
    (v0 : Vis (defScope st) "self") (v1 : Vis (defScope st) nm) (d1 : (nm == ("__debug__" : Str)) = false := by decide) (d2 : (nm == ("__classdict__" : Str)) = false := by decide) :
    FnOk P w K mg base CX0 1 fI fd ["self", nm] (spI C [nm]) :=
  Fun.ok F S (fun vs H Q E ⟨a, is, h1, h2, _⟩ => by rw [h1, List.length_cons, List.length_map, h2]; rfl) fun cdv A outer s H vs Q E hr ⟨a, is, h1, h2, h3, h4⟩ => by
    obtain ⟨i, rfl⟩ : ∃ i, is = [i] := by
      match is, h2 with
      | [i], _ => exact ⟨i, rfl⟩
    subst h1
    rw [hbody]
    refine ⟨_, pss_one (ps_ost (pe_var (i := 0) rfl v0) (pe_var (i := 1) rfl v1 d1 d2)), ?_⟩
    refine ⟨.int i, rfl, .ref a, rfl, a, C, rfl, T, hno, .inl ⟨h3, fun dx n1 n2 => h4 dx _ n1 n2 upd_same (by rw [upd_ne n2, upd_same]; rfl) fun b b1 b2 => by rw [upd_ne b1, upd_ne b2]⟩⟩
theorem init2 {qual : Str} {st : Stmt} {fI C : Addr} {fd : FuncData} {n1 n2 : Str} {p1 p2 p3 p4 p5 p6 p7 p8 : PySem.Pos} (F : Fun K "__init__" qual st fI fd) (S : FnScope ["self", n1, n2] ["self", n1, n2] (defScope st))
    (hbody : defBody st = [.Assign [.Attribute (.Name "self" p1) n1 p2] (.Name n1 p3) p4, .Assign [.Attribute (.Name "self" p5) n2 p6] (.Name n2 p7) p8]) (T : OexC K C) (hno1 : PySem.W.findIn K (.ref C) n1 = some none) (hno2 : PySem.W.findIn K (.ref C) n2 = some none)
    (v0 : Vis (defScope st) "self") (v1 : Vis (defScope st) n1) (v2 : Vis (defScope st) n2) (d1 : (n1 == ("__debug__" : Str)) = false := by decide) (d2 : (n1 == ("__classdict__" : Str)) = false := by decide) (d3 : (n2 == ("__debug__" : Str)) = false := by decide) (d4 : (n2 == ("__classdict__" : Str)) = false := by decide) :
    FnOk P w K mg base CX0 1 fI fd ["self", n1, n2] (spI C [n1, n2]) :=
  Fun.ok F S (fun vs H Q E ⟨a, is, h1, h2, _⟩ => by rw [h1, List.length_cons, List.length_map, h2]; rfl) fun cdv A outer s H vs Q E hr ⟨a, is, h1, h2, h3, h4⟩ => by
    obtain ⟨i, j, rfl⟩ : ∃ i j, is = [i, j] := by
      match is, h2 with
      | [i, j], _ => exact ⟨i, j, rfl⟩
    subst h1
    rw [hbody]
    refine ⟨_, pss_cons (ps_ost (pe_var (i := 0) rfl v0) (pe_var (i := 1) rfl v1 d1 d2)) (pss_one (ps_ost (pe_var (i := 0) rfl v0) (pe_var (i := 2) rfl v2 d3 d4))), ?_⟩
    refine ⟨.int i, rfl, .ref a, rfl, a, C, rfl, T, hno1, .inl ⟨h3, fun dx m1 m2 => ?_⟩⟩
    refine ⟨.int j, rfl, .ref a, rfl, a, C, rfl, T, hno2, .inr ⟨dx, [(n1, .int i)], upd_same, by rw [upd_ne m2, upd_same], (by show 1 ≤ 900; decide), ?_⟩⟩
    exact h4 dx _ m1 m2 (by rw [upd_ne (Ne.symm m2), upd_same]) (by rw [upd_same]; rfl) fun b b1 b2 => by rw [upd_ne b2, upd_ne b1, upd_ne b2]
end
end Dn
namespace Dn
open PySem PySem.Spec L2 A1 A2 A3
section
variable {β : Type} {h : HX β} {env e : Env} {n m : Bool} {d : PyData} {ds : List PyData} {v : FV} {a : FA} {C A : Addr} {fs : List (Str × Int)} {i j : Int} {b : Bool} {t : List (Addr × Bool)}
def exK (d : PyData) (k : Int → List (PyData × PyData) → Rs β) : Rs β := match excD d with
  | some (c, r) => k c r
  | none => .bad
def tbK (t : List (Addr × Bool)) (c : Int) (k : Bool → Rs β) : Rs β := match t.find? fun p => decide (((p.1 : Nat) : Int) = c) with
  | some p => k p.2
  | none => .bad
@[simp ↓] theorem cE_isX {k : Env → R → Rs β} : cE (fIsX t v) env h k = cV v env h fun e n d => exK d fun c r => tbK t c fun b => k e (.sh true (.bool b)) := by
  unfold cE cV fIsX
  rw [on_bind]
  refine congrArg _ (funext fun p => ?_)
  unfold exK
  dsimp only
  cases excD p.2.2 with
  | none => rfl
  | some q =>
    obtain ⟨c, r⟩ := q
    dsimp only
    unfold tbK
    cases t.find? fun p => decide (((p.1 : Nat) : Int) = c) <;> rfl
def fdK (nm : Str) (r : List (PyData × PyData)) (k : Int → Rs β) : Rs β := match fldL nm r with
  | some i => k i
  | none => .bad
@[simp ↓] theorem cE_err {cs : List Addr} {nm : Str} {k : Env → R → Rs β} : cE (fErr cs nm v) env h k = cV v env h fun e n d => exK d fun c r => grd (cs.any fun C => decide (((C : Nat) : Int) = c)) (fdK nm r fun i => k e (.sh true (.int i))) := by
  unfold cE cV fErr
  rw [on_bind]
  refine congrArg _ (funext fun p => ?_)
  unfold exK
  dsimp only
  cases excD p.2.2 with
  | none => rfl
  | some q =>
    obtain ⟨c, r⟩ := q
    dsimp only
    rw [on_grd]
    unfold fdK
    cases fldL nm r <;> rfl
end
end Dn
namespace Dn
open PySem PySem.Spec L2 A1 A2 A3
section
variable {X : Cx} {pins : List (Addr × Obj)} {σ : St} {H H' : Hp} {s : Shared}
end
section
variable {X : Cx} {x n : Str} {c : Value} {i : Nat} {body suite : List Stmt} {b₀ : Stmt} {np pos pos' : PySem.Pos} {tb : WX → TS} {ts : Addr → Obj → Value → Option Addr → TS} {Wout : WX}
end
section
variable {X : Cx} {W : WX} {e : Expr} {es : List Expr} {pos p : PySem.Pos} {fa : FA}
def fRaise0 (x : Str) : FS := fun env => .ex env ⟨x, []⟩
theorem pmk_mk0 {C : Addr} {bmB : List Value} {B newId initId : String} {x : Str} (F : ExcBaseFacts B newId initId bmB) (q : PySem.W.excIn X.K C bmB newId = true) (gC : X.mg x = some (.ref C)) (kC : PySem.W.keepIn X.K (.ref C) = true) (r : Raises X (.ref C)) (hg : Gl X x) (hdb : (x == ("__debug__" : Str)) = false := by decide) :
    PMk X (.Call (.Name x p) [] [] pos) (fun _ H Q => Q (.ref C) none H) := by
  intro pins s σ H Q I h
  refine wpAny_Call_Name_kw (ld_glob I hg gC (PySem.W.callWith_K0 I.kIn kC ?_) hdb)
  obtain ⟨bm, N, nm, qn, bs, hdct, sn, sub, ab, col, dd, k0, k1, k2, k3, k5, mN, hC, hN, hni, T⟩ := exc_obj I.kIn q
  exact wpAny_call_exc_subT F T hC hN hni (fun h' a hm => mk_of I hm r h (I.hok.gone hm.new)) (by show 0 ≤ sizeLine; exact Nat.zero_le _)
def fRaiseI (x : Str) (names : List Str) (f : FA) : FS := fun env => (f env).bind fun p => match intsOf (p.2.map fun d => d.2) with
  | some is => grd (decide (is.length = names.length) && decide (is.length ≤ 1000)) (.ex p.1 ⟨x, (names.zip is).reverse.map fun p => (p.1, V.int p.2)⟩)
  | none => .bad
theorem s_raiseI {CX : CXT} {x : Str} {C fI : Addr} {k : Nat} {fd : FuncData} {ps names : List Str} {p2 : PySem.Pos} (hc : X.calm = true) (tk : Takes X W) (hne : names ≠ []) (T : OexC X.K C) (iC : PySem.W.findIn X.K (.ref C) "__init__" = some (some (.ref fI))) (tI : PySem.W.typeIn X.K (.ref fI) = some (.type "function"))
    (F1 : FnOk X.prog X.w X.K X.mg X.base CX k fI fd ps (spI C names)) (hr : Room (k + 1) X.A) (hb : Binds X.K fd ps []) (hx : Passes CX X (fun _ _ _ => False)) (hg : Gl X x) (hm : X.mg x = some (.ref C)) (ha : DAD X W (e :: es) fa)
    (hdb : (x == ("__debug__" : Str)) = false := by decide) (he : starEach (e :: es) X.env = (false, eval e X.env) :: starEach es X.env := by rfl) (hpl : (backTo p2 (starEach es X.env)).any (·.1) = false := by rfl) :
    DS X W (.Raise (some (.Call (.Name x p) (e :: es) [] p2)) none pos) (fRaiseI x names fa) :=
  ps_le (ps_raise hc tk (pmk_oex T iC tI F1 hr hb .nil hx hg hm ha hdb he hpl)) fun D σ H ⟨H0, F0, F, env, r, q⟩ => by
    refine ⟨H0, F0, F, env, r, ?_⟩
    unfold fRaiseI at q
    refine Rs.post_mono (Rs.post_bind.mp q) (fun p hp vs F1 H1 r1 v1 e1 e2 => ?_) fun _ _ x => x.p (Same.refl F)
    obtain ⟨env1, ps1⟩ := p
    dsimp only at hp v1 r1
    split at hp
    · rename_i is hi
      obtain ⟨hz, hp⟩ := grd_post hp
      obtain ⟨z1, z2⟩ := Bool.and_eq_true_iff.mp hz
      have z1 := of_decide_eq_true z1
      have z2 := of_decide_eq_true z2
      have hvs := ints_map v1 hi
      refine ⟨by rw [hvs, List.length_map]; exact z2, fun a ha => ⟨a, is, by rw [hvs, List.append_nil], z1, upd_same, fun dx H' hd hne' h1 h2 h3 => ⟨rfl, dx, _, h1, h2, by rw [upd_ne hne'] at hd; exact hd, ?_⟩⟩⟩
      have hd1 : H1 dx = none := by rw [upd_ne hne'] at hd; exact hd
      have hG : upd (del H' a) dx (.xd ((names.zip is).reverse.map fun p => (p.1, V.int p.2))) = upd H1 dx (.xd ((names.zip is).reverse.map fun p => (p.1, V.int p.2))) := funext fun b => by
        by_cases b2 : b = dx
        · rw [b2, upd_same, upd_same]
        · rw [upd_ne b2, upd_ne b2]
          by_cases b1 : b = a
          · rw [b1, del_same]; exact ha.symm
          · rw [del_ne b1, h3 b b1 b2, upd_ne b1]
      have hp : ExS X.K X.mg W H0 F0 F env1 ⟨x, (names.zip is).reverse.map fun p => (p.1, V.int p.2)⟩ := hp
      refine hp (.ref C) (some dx) σ F1 H1 r1 e2 _ ⟨hm, ⟨C, rfl⟩, ?_⟩
      dsimp only
      rw [hG]
      generalize hfs : (names.zip is).reverse.map (fun p => (p.1, V.int p.2)) = fs at *
      cases fs with
      | nil =>
        have := congrArg List.length hfs
        rw [List.length_map, List.length_reverse, List.length_zip, z1] at this
        cases names with
        | nil => exact absurd rfl hne
        | cons _ _ => simp at this
      | cons y ys => exact ⟨dx, rfl, hd1, rfl⟩
    · exact hp.elim
end
end Dn
namespace Dn
open PySem PySem.Spec L2 A1 A2 A3
def fPar (i j : Nat) (fa : FA) : FS := fun env => (fa env).bind fun p => match p.2 with
  | [x, y] => .ok (.nx ((p.1.set i (some (.sh (x.1 || atom x.2) x.2))).set j (some (.sh (y.1 || atom y.2) y.2))))
  | _ => .bad
section
variable {X : Cx} {W : WX} {a b : Expr} {fa : FA} {px py pt pos : PySem.Pos} {x y : Str}
end
section
variable {β : Type} {h : HX β} {env : Env} {fv : FV} {fa : FA} {kO : Out → Rs β}
def parK (i j : Nat) (e : Env) (ds : List Dv) (k : Out → Rs β) : Rs β := match ds with
  | [x, y] => k (.nx ((e.set i (some (.sh (x.1 || atom x.2) x.2))).set j (some (.sh (y.1 || atom y.2) y.2))))
  | _ => .bad
@[simp ↓] theorem cO_par {i j : Nat} : cO (fPar i j fa) env h kO = cA fa env h fun e ds => parK i j e ds kO := by
  unfold cO cA fPar
  rw [on_bind]
  refine congrArg _ (funext fun p => ?_)
  obtain ⟨e, ds⟩ := p
  unfold parK
  dsimp only
  split <;> rfl
def npK (i j l : Nat) (e : Env) (d : PyData) (k : Out → Rs β) : Rs β := match e[i]? with
  | some (some (.oz q kd es)) => (match shD e j, shD e l with
    | some dk, some (.int c) => (match keyU dk with
      | some kk => grd (decide (nkey kd = some kk) && decide (es.length < 1000000)) (k (.nx (e.set i (some (.oz q kd (putB keyK es (.int c) d))))))
      | none => .bad)
    | _, _ => .bad)
  | _ => .bad
@[simp ↓] theorem cO_nestP {i j l : Nat} : cO (fNestP i j l fv) env h kO = cV fv env h fun e _ d => npK i j l e d kO := by
  unfold cO cV fNestP
  rw [on_bind]
  refine congrArg _ (funext fun p => ?_)
  obtain ⟨e, n, d⟩ := p
  show on (match e[i]? with
    | some (some (.oz q kd es)) => (match shD e j, shD e l with
      | some dk, some (.int c) => (match keyU dk with
        | some kk => grd (decide (nkey kd = some kk) && decide (es.length < 1000000)) (.ok (.nx (e.set i (some (.oz q kd (putB keyK es (.int c) d))))))
        | none => .bad)
      | _, _ => .bad)
    | _ => .bad) h kO = npK i j l e d kO
  unfold npK
  cases e[i]? with
  | none => rfl
  | some s => cases s with
    | none => rfl
    | some s => cases s with
      | oz q kd es =>
        dsimp only
        cases shD e j with
        | none => rfl
        | some dk =>
          cases shD e l with
          | none => rfl
          | some dd =>
            cases dd with
            | int c =>
              dsimp only
              cases keyU dk with
              | none => rfl
              | some kk => dsimp only; rw [on_grd]; rfl
            | _ => rfl
      | _ => rfl
end
end Dn
namespace Dn
open PySem PySem.Spec L2 A1 A2 A3
section
variable {X : Cx}
end
section
variable {β α γ : Type} {h : HX β} {n : Bool} {c : α → PyData} {cv : γ → PyData}
end
end Dn
namespace Dn
open PySem PySem.Spec L2 A1 A2 A3
def bLenD (p : Dv) : Rs R := match entsU p.2 with
  | some q => sc (.int q.length)
  | none => .bad
section
variable {X : Cx}
end
section
variable {β α γ : Type} {h : HX β} {n : Bool} {c : α → PyData} {cv : γ → PyData} {E : List (α × γ)}
@[simp ↓ high] theorem cR_lenD {k : R → Rs β} : cR (bLenD (n, encUL (enc c cv E))) h k = k (.sh true (.int E.length)) := by
  have e1 : (enc c cv E).length = E.length := by unfold enc; rw [List.length_map]
  unfold cR bLenD
  show on (sc (.int ((enc c cv E).length : Nat))) h k = _
  rw [e1]; rfl
@[simp ↓ high] theorem cR_lenDo {k : R → Rs β} : cR (bLenD (n, encU (enc c cv E))) h k = k (.sh true (.int E.length)) := by
  have e1 : (enc c cv E).length = E.length := by unfold enc; rw [List.length_map]
  unfold cR bLenD
  show on (sc (.int ((enc c cv E).length : Nat))) h k = _
  rw [e1]; rfl
end
end Dn
namespace Dn
open PySem PySem.Spec L2 A1 A2 A3
def fRevL (f : FV) : FE := fun env => (f env).bind fun p => match p.2.2 with
  | .list ds => .ok (p.1, .nw (p.2.1 || ds.all atom) ds.reverse)
  | _ => .bad
section
variable {X : Cx} {W : WX} {a b e : Expr} {f fa fb : FE} {apos cpos pos : PySem.Pos}
def fLix (va vb : FV) : FE := fun env => (va env).bind fun p => match p.2.2 with
  | .list ds => (vb p.1).bind fun q => grd ((SeqAt.shaped (.list ds) && SeqAt.shaped q.2.2) && ds.any fun z => PyData.eqv z q.2.2) (.ok (q.1, .sh true (.int (ds.findIdx fun z => PyData.eqv z q.2.2 : Nat))))
  | _ => .bad
end
section
variable {β α : Type} {h : HX β} {env : Env} {va vb : FV} {c : α → PyData}
def rvK (e : Env) (n : Bool) (d : PyData) (k : Env → R → Rs β) : Rs β := match d with
  | .list ds => k e (.nw (n || ds.all atom) ds.reverse)
  | _ => .bad
@[simp ↓] theorem cE_revL {k : Env → R → Rs β} : cE (fRevL va) env h k = cV va env h fun e n d => rvK e n d k := by
  unfold cE cV fRevL
  rw [on_bind]
  refine congrArg _ (funext fun p => ?_)
  obtain ⟨e, n, d⟩ := p
  cases d <;> rfl
@[simp ↓] theorem rvK_l {e : Env} {L : List α} {k : Env → R → Rs β} : rvK e true (.list (L.map c)) k = k e (.nw true (L.reverse.map c)) := by
  show k e (.nw (true || (L.map c).all atom) (L.map c).reverse) = _
  rw [List.map_reverse]; rfl
def lixK (ds : List PyData) (e : Env) (d : PyData) (k : Env → R → Rs β) : Rs β := grd ((SeqAt.shaped (.list ds) && SeqAt.shaped d) && ds.any fun z => PyData.eqv z d) (k e (.sh true (.int (ds.findIdx fun z => PyData.eqv z d : Nat))))
def lixP (vb : FV) (h : HX β) (e : Env) (d : PyData) (k : Env → R → Rs β) : Rs β := match d with
  | .list ds => cV vb e h fun e _ d => lixK ds e d k
  | _ => .bad
@[simp ↓] theorem cE_lix {k : Env → R → Rs β} : cE (fLix va vb) env h k = cV va env h fun e _ d => lixP vb h e d k := by
  unfold cE cV fLix
  rw [on_bind]
  refine congrArg _ (funext fun p => ?_)
  obtain ⟨e, n, d⟩ := p
  cases d with
  | list ds =>
    dsimp only
    rw [on_bind]
    unfold lixP cV
    refine congrArg _ (funext fun q => ?_)
    rw [on_grd]; rfl
  | _ => rfl
end
end Dn
namespace Dn
open PySem PySem.Spec L2 A1 A2 A3
section
variable {X : Cx} {W : WX} {kx vx tg iter : Expr} {ifs : List Expr} {scope : Scope} {own : List (Str × Nat)} {wi : TI} {g : TG} {tt : TT} {tk tv : TE} {kd : Option Bool} {pos spos py : PySem.Pos} {y : Str}
end
section
variable {X : Cx} {W : WX} {kx vx tg iter : Expr} {ifs : List Expr} {scope : Scope} {own : List (Str × Nat)} {is : List Nat} {fi : FA} {g : FG} {t : FT} {fk fv : FE} {pos spos py : PySem.Pos} {y : Str}
end
end Dn
namespace Dn
open PySem PySem.Spec L2 A1 A2 A3
def pairsP : List PyData → Option (List (PyData × PyData))
  | [] => some []
  | .tuple [k, v] :: ds => (match pairsP ds with
    | some q => some ((k, v) :: q)
    | none => none)
  | _ :: _ => none
section
variable {K : PySem.W.Frag} {H0 F H : Hp} {n : Bool} {P : Program} {w : World} {h : Heap}
structure PrsZ (K : PySem.W.Frag) (H0 : Hp) (n : Bool) (F : Hp) (h : Heap) (us : List Value) (q : List (PyData × PyData)) (zs : List (Addr × NX)) : Prop where
  vals : us = zs.map fun z => Value.ref z.1
  tups : ∀ z ∈ zs, h.IsTuple z.1 #[.ref z.2.2.1, z.2.2.2]
  ents : EnF K H0 n F (zs.map (·.2)) q
end
section
variable {X : Cx}
end
section
variable {α β : Type} {h : HX β} {n : Bool} {γ : Type} {c : α → PyData}
end
end Dn
namespace Dn
open PySem PySem.Spec L2 A1 A2 A3
section
variable {X : Cx}
end
section
variable {β : Type} {h : HX β} {n m a b : Bool} {k : R → Rs β}
end
end Dn
namespace Dn
open PySem PySem.Spec L2 A1 A2 A3
section
variable {X : Cx} {pins : List (Addr × Obj)} {σ : St} {H : Hp} {s : Shared} {P : Addr}
end
end Dn
namespace Dn
open PySem PySem.Spec L2 A1 A2 A3
structure QX where
  prog : Program
  w : World
  K : PySem.W.Frag
  mg : Str → Option Value
  base : Heap
  env : PySem.Env
  A : Around
abbrev QEnv := List (Option PyData)
abbrev FQ := QEnv → Option PyData
def LdAt (env : PySem.Env) (s : Shared) (x : Str) (u : Value) : Prop :=
  (env.kindOf x = some .local ∧ ∃ m, s.heap.Ns env.locals m ∧ m x = some u) ∨ (env.kindOf x = some .free ∧ ∃ c, env.cells.lookup x = some c ∧ s.heap.IsCell c (some u))
structure QC (X : QX) (k : Nat) : Prop where
  mod : Mod X.K X.mg X.base
  kind : X.env.scope.kind = .function
  glob : X.env.globals = mainGlobals
  room : Room k X.A
structure QSt (X : QX) (F H : Hp) (N : List Str) (env : QEnv) (s : Shared) : Prop where
  hok : HOk X.prog X.w H s.heap
  bk : ∀ b o, X.base.get? b = some o → s.heap.get? b = some o
  sg : Sg F H
  ld : ∀ (i : Nat) (d : PyData), env[i]? = some (some d) → ∀ (x : Str), N[i]? = some x → ∃ u v, RelV v u ∧ Is X.K H false F v d ∧ LdAt X.env s x u
theorem keeps_trans {s s1 s2 : Shared} (a : Keeps s s1) (b : Keeps s1 s2) : Keeps s s2 := by
  obtain ⟨h1, t1, rfl, k1⟩ := a
  obtain ⟨h2, t2, rfl, k2⟩ := b
  exact ⟨h2, t2, rfl, fun b o e => k2 b o (k1 b o e)⟩
theorem keeps_heap {s s1 : Shared} (a : Keeps s s1) : ∀ b o, s.heap.get? b = some o → s1.heap.get? b = some o := by
  obtain ⟨h1, t1, rfl, k1⟩ := a
  exact k1
theorem LdAt.keep {env : PySem.Env} {s s1 : Shared} {x : Str} {u : Value} (h : LdAt env s x u) (k : ∀ b o, s.heap.get? b = some o → s1.heap.get? b = some o) : LdAt env s1 x u := by
  rcases h with ⟨a, m, hn, hm⟩ | ⟨a, c, hc, hz⟩
  · exact .inl ⟨a, m, hn.keeps k, hm⟩
  · exact .inr ⟨a, c, hc, hz.keeps k⟩
theorem QSt.keep {X : QX} {F H : Hp} {N : List Str} {env : QEnv} {s s1 : Shared} (q : QSt X F H N env s) (a : Keeps s s1) : QSt X F H N env s1 :=
  ⟨q.hok.kept (keeps_heap a), fun b o e => keeps_heap a b o (q.bk b o e), q.sg, fun i d h x hx => let ⟨u, v, r, i2, l⟩ := q.ld i d h x hx; ⟨u, v, r, i2, l.keep (keeps_heap a)⟩⟩
def QE (X : QX) (N : List Str) (e : Expr) (f : FQ) : Prop := ∀ (F H : Hp) (env : QEnv) (s : Shared) (d : PyData) (E : Value → Shared → Prop), QSt X F H N env s → f env = some d →
  wpAny (model X.prog X.w) X.A (eval e X.env) (fun y s1 => ∃ v, RelV v y ∧ Is X.K H false F v d ∧ Keeps s s1) E s
def QA (X : QX) (N : List Str) (es : List Expr) (f : QEnv → Option (List PyData)) : Prop := ∀ (pos : PySem.Pos) (F H : Hp) (env : QEnv) (s : Shared) (ds : List PyData) (E : Value → Shared → Prop), QSt X F H N env s → f env = some ds →
  wpAny (model X.prog X.w) X.A (spliced (backTo pos (starEach es X.env))) (fun us s1 => ∃ vs, Vals vs us ∧ IsA X.K H false F vs ds ∧ Keeps s s1) E s
structure QFn (P : Program) (w : World) (K : PySem.W.Frag) (mg : Str → Option Value) (base : Heap) (k : Nat) (f : Addr) (fd : FuncData) (ps : List Str) (S : List PyData → Option PyData) : Prop where
  run : ∀ (A : Around) (s : Shared) (F H : Hp) (args : Args) (us : List Value) (vs : List V) (ds : List PyData) (d : PyData), Room k A → Mod K mg base → (∀ b o, base.get? b = some o → s.heap.get? b = some o) → HOk P w H s.heap → Sg F H → BindsTo s fd args (ps.zip us) → Vals vs us → IsA K H false F vs ds → S ds = some d →
    codeAny (model P w) A (.call (.ref f) args) (fun r s1 => ∃ y v, r = .ok (.ret y) ∧ RelV v y ∧ Is K H false F v d ∧ Keeps s s1) s
  len : ∀ ds d, S ds = some d → ds.length = ps.length
theorem keeps_refl (s : Shared) : Keeps s s := ⟨s.heap, s.toks, rfl, fun _ _ e => e⟩
theorem keeps_tok (s : Shared) (t : Nat) : Keeps s { s with toks := t } := ⟨s.heap, t, rfl, fun _ _ e => e⟩
section
variable {X : QX} {N : List Str} {k : Nat} {a b : Expr} {fa fb : FQ} {pos p : PySem.Pos}
def qVar (i : Nat) : FQ := fun env => env.getD i none
theorem q_var (C : QC X k) (i : Nat) {x : Str} (hN : N[i]? = some x := by rfl) (hd : (x == ("__debug__" : Str)) = false := by decide) (hcd : (x == ("__classdict__" : Str)) = false := by decide) : QE X N (.Name x pos) (qVar i) := fun F H env s d E q h => by
  have he : env[i]? = some (some d) := by
    unfold qVar at h
    rw [List.getD_eq_getElem?_getD] at h
    cases z : env[i]? with
    | none => rw [z] at h; cases h
    | some w => rw [z] at h; exact congrArg some h
  obtain ⟨u, v, r, i2, l⟩ := q.ld i d he x hN
  refine wpAny_Name ?_ hd
  rcases l with ⟨a, m, hn, hm⟩ | ⟨a, c, hc, hz⟩
  · exact wpAny_loadName_local C.kind a hn hm ⟨v, r, i2, keeps_refl s⟩
  · exact wpAny_loadName_free C.kind a hc hz ⟨v, r, i2, keeps_refl s⟩ hcd
def qI2 (g : Int → Int → PyData) (fa fb : FQ) : FQ := fun env => match fa env, fb env with
  | some (.int i), some (.int j) => some (g i j)
  | _, _ => none
theorem is_bl0 {K : PySem.W.Frag} {H F : Hp} {v : V} {b : Bool} (h : Is K H false F v (.bool b)) : v = .bl b := by cases h; rfl
def qAnd (fa fb : FQ) : FQ := fun env => match fa env with
  | some (.bool true) => (match fb env with
    | some (.bool y) => some (.bool y)
    | _ => none)
  | some (.bool false) => some (.bool false)
  | _ => none
theorem q_and (ha : QE X N a fa) (hb : QE X N b fb) : QE X N (.BoolOp .And [a, b] pos) (qAnd fa fb) := fun F H env s d E q h => by
  unfold qAnd at h
  split at h
  · rename_i h1
    split at h
    · rename_i y h2
      cases h
      refine wpAny_And2 (wpAny_mono (ha F H env s _ E q h1) (fun u s1 ⟨v, r, iv, k1⟩ => ?_) fun _ _ z => z)
      rw [is_bl0 iv] at r
      cases (show u = Value.bool true from r)
      refine wpAny_truthy_bool ?_
      exact wpAny_mono (hb F H env s1 _ E (q.keep k1) h2) (fun u2 s2 ⟨v2, r2, iv2, k2⟩ => ⟨v2, r2, iv2, keeps_trans k1 k2⟩) fun _ _ z => z
    · cases h
  · rename_i h1
    cases h
    refine wpAny_And2 (wpAny_mono (ha F H env s _ E q h1) (fun u s1 ⟨v, r, iv, k1⟩ => ?_) fun _ _ z => z)
    rw [is_bl0 iv] at r
    cases (show u = Value.bool false from r)
    refine wpAny_truthy_bool ?_
    exact ⟨.bl false, rfl, .bl false, k1⟩
  · cases h
def qNot (fa : FQ) : FQ := fun env => match fa env with
  | some (.bool x) => some (.bool (!x))
  | _ => none
theorem q_not (ha : QE X N a fa) : QE X N (.UnaryOp .Not a pos) (qNot fa) := fun F H env s d E q h => by
  unfold qNot at h
  split at h
  · rename_i x h1
    cases h
    refine wpAny_UnaryOp (wpAny_mono (ha F H env s _ E q h1) (fun u s1 ⟨v, r, iv, k1⟩ => ?_) fun _ _ z => z)
    rw [is_bl0 iv] at r
    cases (show u = Value.bool x from r)
    show wpAny _ _ (do return Value.bool (!(← truthy (Value.bool x)))) _ _ _
    exact wpAny_bind (wpAny_truthy_bool (wpAny_pure ⟨.bl (!x), rfl, .bl (!x), k1⟩))
  · cases h
theorem qa_nil : QA X N [] (fun _ => some []) := fun pos F H env s ds E q h => by
  cases h
  exact Calls.spliced_nil ⟨[], .nil, .nil, keeps_refl s⟩
def qCons (f : FQ) (g : QEnv → Option (List PyData)) : QEnv → Option (List PyData) := fun env => match f env, g env with
  | some d, some ds => some (d :: ds)
  | _, _ => none
theorem qa_cons {es : List Expr} {g : QEnv → Option (List PyData)} (ha : QE X N a fa) (hr : QA X N es g) (hs : starEach (a :: es) X.env = (false, eval a X.env) :: starEach es X.env := by rfl) : QA X N (a :: es) (qCons fa g) := fun pos F H env s ds E q h => by
  unfold qCons at h
  split at h
  · rename_i d ds' h1 h2
    cases h
    rw [hs]
    show wpAny _ _ (spliced ((false, eval a X.env) :: backTo pos (starEach es X.env))) _ _ s
    refine Calls.spliced_cons (wpAny_mono (ha F H env s _ E q h1) (fun u s1 ⟨v, r, iv, k1⟩ => ?_) fun _ _ z => z)
    exact wpAny_mono (hr pos F H env s1 _ E (q.keep k1) h2) (fun us s2 ⟨vs, r2, iv2, k2⟩ => ⟨v :: vs, .cons r r2, .cons iv iv2, keeps_trans k1 k2⟩) fun _ _ z => z
  · cases h
def qCall (S : List PyData → Option PyData) (g : QEnv → Option (List PyData)) : FQ := fun env => match g env with
  | some ds => S ds
  | none => none
theorem q_call {es : List Expr} {g : QEnv → Option (List PyData)} {x : Str} {f : Addr} {fd : FuncData} {ps : List Str} {S : List PyData → Option PyData} (C : QC X k) (G : QFn X.prog X.w X.K X.mg X.base k f fd ps S) (hg : X.env.kindOf x = some .globalImplicit) (hm : X.mg x = some (.ref f)) (hk : PySem.W.keepIn X.K (.ref f) = true) (hb : Binds X.K fd ps [])
    (ha : QA X N (a :: es) g) (hdb : (x == ("__debug__" : Str)) = false := by decide) (he : starEach (a :: es) X.env = (false, eval a X.env) :: starEach es X.env := by rfl) (hpl : (backTo pos (starEach es X.env)).any (·.1) = false := by rfl) :
    QE X N (.Call (.Name x p) (a :: es) [] pos) (qCall S g) := fun F H env s d E q h => by
  unfold qCall at h
  split at h
  · rename_i ds h1
    refine wpAny_Call_Name_kw (Calls.Name_function_global C.kind hg (Calls.loadGlobal_global (by rw [C.glob]; exact C.mod.glob.keeps q.bk) hm ?_) hdb)
    refine PySem.W.callWith_K (h₀ := X.base) C.mod.kin hk (wpAny_mono (ha pos F H env s _ E q h1) (fun us s1 ⟨vs, r, iv, k1⟩ => ?_) fun _ _ z => z) he hpl
    have q1 := q.keep k1
    have kin1 : X.K.In s1.heap := C.mod.kin.keeps q1.bk
    have hl : us.length = ps.length := by rw [← r.length, iv.length]; exact G.len _ _ h
    have bb := hb s1 us kin1 (by rw [List.append_nil]; exact hl)
    rw [List.append_nil] at bb
    refine ⟨kin1, wpAny_call (codeAny_mono (G.run X.A s1 F H ⟨us, []⟩ us vs ds d C.room C.mod q1.bk q1.hok q1.sg bb r iv h) fun res s2 hq => ?_)⟩
    obtain ⟨y, v, rfl, rv, iv2, k2⟩ := hq
    exact ⟨v, rv, iv2, keeps_trans k1 k2⟩
  · cases h
def qIsi (T : String) (fa : FQ) : FQ := fun env => match fa env with
  | some d => if atom d = true then (match isT T d with
    | some b => some (.bool b)
    | none => none) else none
  | none => none
theorem q_isi {T : String} {xT : Str} {pT : PySem.Pos} (C : QC X k) (hbl : X.env.builtins = builtinsNs) (hg : X.env.kindOf "isinstance" = some .globalImplicit) (hm : X.mg "isinstance" = none) (hv : bootBuiltins "isinstance" = some (.builtin "isinstance")) (hgT : X.env.kindOf xT = some .globalImplicit) (hmT : X.mg xT = none) (hvT : bootBuiltins xT = some (.type T)) (ha : QE X N a fa)
    (hn : xT ≠ "__name__" := by decide) (hdb : (xT == ("__debug__" : Str)) = false := by decide) (h1 : starEach [a, .Name xT pT] X.env = (false, eval a X.env) :: starEach [.Name xT pT] X.env := by rfl) (h2 : starEach [.Name xT pT] X.env = (false, eval (.Name xT pT) X.env) :: starEach [] X.env := by rfl)
    (hpl : (backTo pos (starEach [.Name xT pT] X.env)).any (·.1) = false := by rfl) : QE X N (.Call (.Name "isinstance" p) [a, .Name xT pT] [] pos) (qIsi T fa) := fun F H env s d E q h => by
  unfold qIsi at h
  split at h
  · rename_i d1 e1
    split at h
    · rename_i hat
      split at h
      · rename_i b hb
        cases h
        obtain ⟨mb, n1, n2⟩ := C.mod.blt
        have bl : ∀ {s' : Shared} {x : Str} {u : Value} {Q : Value → Shared → Prop} {p : PySem.Pos}, (∀ b o, X.base.get? b = some o → s'.heap.get? b = some o) → X.env.kindOf x = some .globalImplicit → X.mg x = none → bootBuiltins x = some u → x ≠ "__name__" → (x == ("__debug__" : Str)) = false → Q u s' → wpAny (model X.prog X.w) X.A (eval (.Name x p) X.env) Q E s' := fun {s' x u Q p} bk g m v n db hq =>
          Calls.Name_function_global C.kind g (Calls.loadGlobal_builtin (by rw [C.glob]; exact C.mod.glob.keeps bk) m (by rw [hbl]; exact n1.keeps bk) ((n2 x n).trans v) hq) db
        refine wpAny_Call_Name_kw (bl q.bk hg hm hv (by decide) (by decide) ?_)
        refine PyProof.Rows.callWith_builtin1 ?_ h1 hpl
        rw [h1]
        show wpAny _ _ (spliced ((false, eval a X.env) :: backTo pos (starEach [.Name xT pT] X.env))) _ _ s
        refine Calls.spliced_cons (wpAny_mono (ha F H env s _ E q e1) (fun u s1 ⟨v, r, iv, k1⟩ => ?_) fun _ _ z => z)
        rw [h2]
        show wpAny _ _ (spliced ((false, eval (.Name xT pT) X.env) :: backTo pos (starEach [] X.env))) _ _ s1
        have q1 := q.keep k1
        have kin1 : X.K.In s1.heap := C.mod.kin.keeps q1.bk
        refine Calls.spliced_cons (bl q1.bk hgT hmT hvT hn hdb (Calls.spliced_nil ?_))
        have fin : ∀ tk : Nat, ∃ v, RelV v (Value.bool b) ∧ Is X.K H false F v (PyData.bool b) ∧ Keeps s { s1 with toks := tk } := fun tk => ⟨.bl b, rfl, .bl b, keeps_trans k1 (keeps_tok s1 tk)⟩
        cases iv with
        | non => cases (show u = Value.none from r); exact PySem.W.kia_one PySem.W.kitx_none kin1 trivial (kit_ty hb) (fun z => nomatch z) fin
        | bl c => cases (show u = Value.bool c from r); exact PySem.W.kia_one PySem.W.kitx_bool kin1 trivial (kit_ty hb) (fun z => nomatch z) fin
        | int i => obtain ⟨t, rfl⟩ := r; exact PySem.W.kia_one PySem.W.kitx_int kin1 trivial (kit_ty hb) (fun z => nomatch z) fin
        | str y => obtain ⟨t, rfl⟩ := r; exact PySem.W.kia_one PySem.W.kitx_str kin1 trivial (kit_ty hb) (fun z => nomatch z) fin
        | lst _ _ _ => cases hat
        | tup _ _ => cases hat
        | dk _ _ _ => cases hat
        | dt _ _ _ => cases hat
        | dl _ _ _ => cases hat
        | exc _ _ _ _ => cases hat
        | nst _ _ _ => cases hat
        | pl _ => cases hat
        | kl _ _ _ => cases hat
        | du _ _ _ _ _ _ => cases hat
        | dul _ _ _ _ _ _ => cases hat
      · cases h
    · cases h
  · cases h
end
end Dn
namespace Dn
open PySem PySem.Spec L2 A1 A2 A3
def qArgs (N np : Nat) (ds : List PyData) : QEnv := ds.map some ++ List.replicate (N - np) none
def qRun (N np : Nat) (f : FQ) : List PyData → Option PyData := fun ds => if ds.length = np then f (qArgs N np ds) else none
theorem qfn_ret {P : Program} {w : World} {K : PySem.W.Frag} {mg : Str → Option Value} {base : Heap} {x qual : Str} {st : Stmt} {f : Addr} {fd : FuncData} {N ps : List Str} {k : Nat} {e : Expr} {pos : PySem.Pos} {fq : FQ} (Fn : L2.Fun K x qual st f fd) (S : FnScope N ps (defScope st)) (hloc : ∀ y ∈ ps, (defScope st).names.lookup y = some .local) (hb : defBody st = [.Return (some e) pos])
    (hbody : ∀ (cdv : Value) (A : Around) (s : Shared), QC ⟨P, w, K, mg, base, PyProof.Rows.envOfC qual (defScope st) s.heap.objs.size f cdv, A.deeper (PyProof.Rows.envOfC qual (defScope st) s.heap.objs.size f cdv)⟩ k → QE ⟨P, w, K, mg, base, PyProof.Rows.envOfC qual (defScope st) s.heap.objs.size f cdv, A.deeper (PyProof.Rows.envOfC qual (defScope st) s.heap.objs.size f cdv)⟩ N e fq) :
    QFn P w K mg base (k + 1) f fd ps (qRun N.length ps.length fq) := by
  obtain ⟨oc, od, kV, doc, pm, an, cdv, ct, osl, rfl, lk, hcd⟩ := Fn.ex
  refine ⟨fun A s F H args us vs ds d hr hmod hbk hok hsg hbd rv hia hS => ?_, fun ds d h => by
    unfold qRun at h
    split at h
    · assumption
    · cases h⟩
  unfold qRun at hS
  split at hS
  · rename_i hlen
    have KX : K.In s.heap := hmod.kin.keeps hbk
    have lim : s.heap.NoLimit := hmod.nolimit.keeps hbk
    have hkind : ∀ y ∈ ps.zip us, (defScope st).names.lookup y.1 = some .local ∨ ((defScope st).names.lookup y.1 = some .cell ∧ ((cellsFrom (s.heap.objs.size + 1) (defScope st).names []).lookup y.1).isSome = true) := fun y hy =>
      .inl (hloc y.1 (List.of_mem_zip (a := y.1) (b := y.2) hy).1)
    refine codeAny_call_function hr.depth (KX _ _ lk) rfl S.co S.gen rfl (PySem.W.codeRec_of KX hcd) (hbd _ _ _ _ (wpAny_newFunctionEnv_cells S.kind hkind fun env he s1 xx => ?_))
    subst he
    refine ⟨lim.keeps xx.toInCall.keep, codeAny_func ?_⟩
    rw [hb]
    obtain ⟨h1, tk, e1, kp⟩ := xx.done
    have k1 : Keeps s s1 := ⟨h1, tk, e1, kp⟩
    have C : QC ⟨P, w, K, mg, base, PyProof.Rows.envOfC qual (defScope st) s.heap.objs.size f cdv, A.deeper (PyProof.Rows.envOfC qual (defScope st) s.heap.objs.size f cdv)⟩ k := ⟨hmod, S.kind, rfl, hr.deeper _⟩
    have ndP : ps.Nodup := by rw [← S.pre]; exact S.nd.sublist (List.take_sublist _ _)
    have q : QSt ⟨P, w, K, mg, base, PyProof.Rows.envOfC qual (defScope st) s.heap.objs.size f cdv, A.deeper (PyProof.Rows.envOfC qual (defScope st) s.heap.objs.size f cdv)⟩ F H N (qArgs N.length ps.length ds) s1 := by
      refine ⟨hok.kept (keeps_heap k1), fun b o e => keeps_heap k1 b o (hbk b o e), hsg, fun i d2 hd y hy => ?_⟩
      have hi : i < ds.length := by
        unfold qArgs at hd
        rcases Nat.lt_or_ge i ds.length with z | z
        · exact z
        · rw [List.getElem?_append_right (by simpa using z), List.getElem?_replicate] at hd
          split at hd <;> cases hd
      have hd2 : ds[i]? = some d2 := by
        unfold qArgs at hd
        rw [List.getElem?_append_left (by simpa using hi), List.getElem?_map] at hd
        cases z : ds[i]? with
        | none => rw [z] at hd; cases hd
        | some w => rw [z] at hd; exact congrArg some (Option.some.inj (Option.some.inj hd))
      obtain ⟨v, hv, iv⟩ := hia.get hd2
      obtain ⟨u, hu, ru⟩ := rv.get hv
      have hp : ps[i]? = some y := by
        rw [← S.pre, List.getElem?_take_of_lt (by omega)]; exact hy
      have hl := hloc y (List.mem_of_getElem? hp)
      exact ⟨u, v, ru, iv, .inl ⟨hl, _, xx.toInCall.ns, bindL_get ndP hp hu hl⟩⟩
    refine wpAny_execs_cons (wpAny_Return_some (wpAny_mono (hbody cdv A s C F H _ s1 d (fun _ _ => False) q hS) (fun y s2 ⟨v, r, iv, k2⟩ => ?_) fun _ _ z => z.elim))
    exact ⟨y, v, rfl, r, iv, keeps_trans k1 k2⟩
  · cases hS
section
variable {X : Cx} {pins : List (Addr × Obj)} {σ : St} {H : Hp} {s : Shared} {P : Addr}
def EltW (X : Cx) (σ : St) (H : Hp) (scope : Scope) (x : Str) (elt : Expr) (xs : List V) (tr : Nat → Bool) : Prop :=
  ∀ (cenv : PySem.Env) (A' : Around) (E' : Value → Shared → Prop) (i : Nat) (v : V) (u : Value) (s2 : Shared) (m2 : Str → Option Value), cenv.scope = scope → cenv.globals = mainGlobals → Mod X.K X.mg X.base → A'.handled = none → A'.depth ≤ X.A.depth + 1 → A'.units ≤ X.A.units + 8 → xs[i]? = some v → RelV v u →
    s2.heap.Ns cenv.locals m2 → m2 x = some u → HOk X.prog X.w H s2.heap → (∀ b o, X.base.get? b = some o → s2.heap.get? b = some o) →
    (∀ (y : Str) (j : Nat) (z : V), scope.names.lookup y = some .free → X.N[j]? = some y → σ[j]? = some (some z) → ∃ c w, cenv.cells.lookup y = some c ∧ s2.heap.IsCell c (some w) ∧ RelV z w) →
    wpAny (model X.prog X.w) A' (eval elt cenv) (fun y s3 => y = .bool (tr i) ∧ Keeps s2 s3) E' s2
def ItH (h : Heap) (tp : Bool) (a : Addr) (items : Array Value) : Prop := if tp = true then h.IsTuple a items else h.IsList a items
def itO (tp : Bool) (a : Addr) : Obj := if tp = true then { cls := .type "tuple_iterator", data := .fields #[.ref a, .int 0 0] } else { cls := .type "list_iterator", data := .fields #[.ref a, .int 0 0] }
def itS (tp : Bool) (I a : Addr) (items : Array Value) (i : Nat) (h : Heap) : Prop := if tp = true then h.IsTupleIter I a i ∧ h.IsTuple a items else h.IsListIter I a i ∧ h.IsList a items
theorem itH_walks {prog : Program} {w : World} {A : Around} (hh : A.handled = none) (tp : Bool) (I a : Addr) (hne : a ≠ I) (items : Array Value) : Walks prog w A I [I, a] [I] items.size (fun i v => items[i]? = some v) (itS tp I a items) := by
  cases tp with
  | true => exact Walks.tuple hh I a hne items
  | false => exact Walks.list hh I a hne items
theorem gen_w {c : Addr} {elt iter : Expr} {x : Str} {px gpos : PySem.Pos} {scope : Scope} {te : TE} {k : Nat} {Q' : Value → Shared → Prop} {R : List V → (Nat → Bool) → Hp → Prop}
    (hr : Room k X.A) (TB : GxR.TabB X.base X.mg c P) (hcode : X.env.code = .ref c) (S : GQ X.env.scope scope x) (hi : PE X iter te) (hs : ∀ v, genFold iter X.env v = pure v) (I : L2.Inv X pins σ H s)
    (h : te σ H fun v H1 => ∃ (yl : Addr) (xs : List V) (tr : Nat → Bool), v = .ref yl ∧ (SqT X.K H1 yl xs ∨ SqL X.K H1 yl xs) ∧ H1 P = some (tabE P) ∧ EltW X σ H1 scope x elt xs tr ∧ R xs tr H1)
    (hQ : ∀ xs tr H1 g s5, R xs tr H1 → ReadyQ X pins σ H1 xs.length tr g s5 → Q' (.ref g) s5) :
    wpAny (model X.prog X.w) X.A (eval (.GeneratorExp elt [⟨.Name x px, iter, [], 0⟩] scope gpos) X.env) Q' X.xe s := by
  have capt : ∀ y ∈ scope.names, y.2 = .free → ∃ c, X.env.cells.lookup y.1 = some c := fun y hy e => (S.free y hy e).elim (fun z => I.ok.has _ (.inl z)) fun z => I.ok.has _ (.inr z)
  refine wpAny_GeneratorExp_walksQD hr.hd S.co (closure_ok capt) S.cell S.dot S.loc S.kind (Nat.lt_of_le_of_lt (Nat.le_refl _) (by have := hr.dp; omega)) ?_ hs
  refine thn (hi.run pins s σ H _ I h) fun xv s1 ⟨v, H1, J, rv1, yl, xs, tr, ev, hyl, hP, hel, hR⟩ => ?_
  subst ev
  have exv : xv = Value.ref yl := rv1
  subst exv
  obtain ⟨tp, its, rv, isl, hcl⟩ : ∃ (tp : Bool) (its : List Value), Vals xs its ∧ ItH s1.heap tp yl its.toArray ∧ (∀ o, s1.heap.get? yl = some o → ∃ n, o.data = .seq its.toArray n) := by
    rcases hyl with hyl | hyl
    · obtain ⟨its, rv, pt, hz⟩ := J.tuple hyl
      have pt : s1.heap.IsTuple yl its.toArray := pt
      exact ⟨true, its, rv, pt, fun o e => by
        obtain ⟨o2, g1, _, n, g3⟩ := pt
        rw [g1] at e; cases e
        exact ⟨n, g3⟩⟩
    · obtain ⟨its, rv, pl, hz⟩ := J.list hyl
      exact ⟨false, its, rv, pl.isList, fun o e => by
        obtain ⟨o2, g1, _, n, g3⟩ := pl.isList
        rw [g1] at e; cases e
        exact ⟨n, g3⟩⟩
  have hlen : its.length = xs.length := rv.length.symm
  have iter : ∀ {Q : Value → Shared → Prop} {E : Value → Shared → Prop}, Q (.ref s1.heap.objs.size) { s1 with heap := s1.heap.push (itO tp yl) } → wpAny (model X.prog X.w) X.A (pyIter (.ref yl)) Q E s1 := fun {Q E} q => by
    cases tp with
    | true => exact wpAny_pyIter_tuple (show s1.heap.IsTuple yl its.toArray from isl) q
    | false => exact wpAny_pyIter_list (show s1.heap.IsList yl its.toArray from isl) q
  refine iter ?_
  generalize ho : itO tp yl = o
  generalize hIa : s1.heap.objs.size = Ia
  obtain ⟨⟨ps, hPs, ht⟩, _⟩ := (show ObjOk X.prog X.w H1 s1.heap P (tabE P) from J.hok P _ hP)
  obtain ⟨oy, hoy, hoc⟩ : ∃ o, s1.heap.get? yl = some o ∧ ∃ n, o.data = .seq its.toArray n := by
    cases tp with
    | true => obtain ⟨o2, g1, _, n, g3⟩ := (show s1.heap.IsTuple yl its.toArray from isl); exact ⟨o2, g1, n, g3⟩
    | false => obtain ⟨o2, g1, _, n, g3⟩ := (show s1.heap.IsList yl its.toArray from isl); exact ⟨o2, g1, n, g3⟩
  have ylt : yl < Ia := by rw [← hIa]; exact Heap.lt_size hoy
  have Plt : P < Ia := by rw [← hIa]; exact Heap.lt_size hPs
  have hP2 : (s1.heap.push o).get? P = some { cls := .none, data := .fields ps } := Heap.get?_push_of_some _ hPs
  have cd : PySem.W.CodeHd (s1.heap.push o) c P := TB.code.keeps fun b u e => Heap.get?_push_of_some _ (J.bk b u e)
  have lim2 : (s1.heap.push o).NoLimit := J.nolimit.push o
  have ylP : yl ≠ P := fun z => by
    rw [z, hPs] at hoy
    cases hoy
    obtain ⟨n, hoc⟩ := hoc
    cases hoc
  have main : ∀ (code : Value) (h3 : Heap) (tk : Nat) (ps' : Array Value), Heap.ExtBut P (s1.heap.push o) h3 → (s1.heap.push o).objs.size ≤ h3.objs.size → h3.get? P = some { cls := .none, data := .fields ps' } → TriplesOk ps'.toList →
      wpAny (model X.prog X.w) X.A (builtinsFor X.env.globals X.env.builtins) (fun bi s4 =>
        ∃ I' fp wr n0 Pf S0 pz F, Value.ref Ia = .ref I' ∧ (∀ A' : Around, A'.handled = none → Walks X.prog X.w A' I' fp wr n0 Pf S0) ∧ S0 0 s4.heap ∧ (∀ b ∈ fp, b < s4.heap.objs.size) ∧ s4.heap.NoLimit ∧ cStatics ∉ wr ∧
          (∀ href : Heap, (∀ b o, s4.heap.get? b = some o → href.get? b = some o) →
            QuietGenD X.prog X.w (genEnv scope (cloFrom X.env.cells scope.names []) s4.heap.objs.size code bi X.env) x [] elt (List.range s4.heap.objs.size) wr Pf pz F href (X.A.depth + 1) (X.A.units + 8)) ∧
          (∀ a h5 tk gs, gs.bare = true → s4.heap.objs.size < a → h5.objs.size = a + 1 → (∀ b o, s4.heap.get? b = some o → h5.get? b = some o) →
            WalksS X.prog X.w X.A.in4 a (a :: s4.heap.objs.size :: List.range s4.heap.objs.size) (s4.heap.objs.size :: wr) (GenOnlyQ s4.gens.size) (passing pz n0 0).length
              (fun j y => ∃ i, (passing pz n0 0)[j]? = some i ∧ F i y) (GenAt X.prog X.w X.A.in4 a s4.gens.size s4.heap.objs.size (List.range s4.heap.objs.size) wr pz n0 F) →
            GenAt X.prog X.w X.A.in4 a s4.gens.size s4.heap.objs.size (List.range s4.heap.objs.size) wr pz n0 F 0 { s4 with gens := s4.gens.push gs, toks := tk, heap := h5 } →
            Q' (.ref a) { s4 with gens := s4.gens.push gs, toks := tk, heap := h5 })) X.xe { s1 with heap := h3, toks := tk } := by
    intro code h3 tk ps' hx hsz hP3 ht3
    obtain ⟨bm, ob, e1, e2, e3, e4, e5, e6, e7, e8⟩ := TB.bm
    have csP : cStatics ≠ P := fun e => by
      obtain ⟨_, hns, _⟩ := J.nolimit
      obtain ⟨o', es, ep, ho', hd, _⟩ := hns
      rw [e, hPs] at ho'
      cases ho'
      cases hd
    have csl : cStatics < Ia := by
      obtain ⟨_, hns, _⟩ := J.nolimit
      rw [← hIa]; exact hns.lt
    have sz2 : (s1.heap.push o).objs.size = Ia + 1 := by rw [← hIa]; exact Heap.size_push ..
    have i1 : Ia < h3.objs.size := Nat.lt_of_succ_le (by rw [sz2] at hsz; exact hsz)
    have keep3 : ∀ b u, b ≠ P → s1.heap.get? b = some u → h3.get? b = some u := fun b u hb e => hx b u hb (Heap.get?_push_of_some _ e)
    have glob : h3.Ns X.env.globals X.mg := by
      rw [J.ok.glob]
      exact ((J.mod.glob.keeps J.bk).push o).extBut hx TB.gP
    refine wpAny_builtinsFor (m := X.mg) glob e1 e2 (keep3 _ _ e4 (J.bk _ _ e5)) e6 e7 e8 ?_
    have keepI : ∀ u, (s1.heap.push o).get? Ia = some u → h3.get? Ia = some u := fun u e => hx _ u (Nat.ne_of_gt Plt) e
    have atIa : (s1.heap.push o).get? Ia = some o := by
      rw [← hIa]
      refine Heap.get?_push_size _ ?_
      rw [← ho]; cases tp <;> rfl
    have st3 : itS tp Ia yl its.toArray 0 h3 := by
      cases tp with
      | true =>
        obtain ⟨o2, g1, g2⟩ := (show s1.heap.IsTuple yl its.toArray from isl)
        exact ⟨⟨o, keepI o atIa, by rw [← ho]; rfl, by rw [← ho]; rfl⟩, ⟨o2, keep3 _ _ ylP g1, g2⟩⟩
      | false =>
        obtain ⟨o2, g1, g2⟩ := (show s1.heap.IsList yl its.toArray from isl)
        exact ⟨⟨o, keepI o atIa, by rw [← ho]; rfl, by rw [← ho]; rfl⟩, ⟨o2, keep3 _ _ ylP g1, g2⟩⟩
    refine ⟨Ia, [Ia, yl], [Ia], its.toArray.size, (fun i v => its.toArray[i]? = some v), (itS tp Ia yl its.toArray), (fun _ => true), (fun i y => i < xs.length ∧ y = .bool (tr i)), rfl,
      (fun A' hA => itH_walks hA tp Ia yl (Nat.ne_of_lt ylt) its.toArray), st3, fun b hb => ?_, lim2.extBut hx csP, fun z => ?_, fun href hhref => ?_, fun g h5 tk5 gs hgb hag hsz5 hk5 W5 hat => ?_⟩
    · have hb2 : b = Ia ∨ b = yl := by simpa using hb
      show b < h3.objs.size
      rcases hb2 with z | z
      · rw [z]; exact i1
      · rw [z]; exact Nat.lt_trans ylt i1
    · have z2 : cStatics = Ia := by simpa using z
      exact absurd z2 (Nat.ne_of_lt csl)
    · have atI : ∀ (i : Nat) (v : Value), its.toArray[i]? = some v → ∃ y : V, xs[i]? = some y ∧ RelV y v := fun i v hv => by
        have hv2 : its[i]? = some v := by simpa using hv
        have hi2 : i < its.length := (List.getElem?_eq_some_iff.mp hv2).1
        obtain ⟨y, hy⟩ : ∃ y, xs[i]? = some y := ⟨xs[i]'(by omega), List.getElem?_eq_getElem _⟩
        obtain ⟨u, hu, ru⟩ := rv.get hy
        rw [hv2] at hu
        cases hu
        exact ⟨y, hy, ru⟩
      refine ⟨fun A' E' i v s2 m2 hA hD hU hPv hn hm hk => ?_, fun A' E' i v s2 m2 hA hD hU hPv hp hn hm hk => ?_⟩
      · simp only [List.forIn_nil]
        exact wpAny_pure ⟨rfl, keeps_same s2 s2.heap s2.toks fun _ _ e => e⟩
      · obtain ⟨y, hy, ru⟩ := atI i v hPv
        have all2 : ∀ b u, b ≠ Ia → h3.get? b = some u → s2.heap.get? b = some u := fun b u hb e => hk b (List.mem_range.mpr (Heap.lt_size e)) (by simpa using hb) u (hhref b u e)
        have lt1 : ∀ b u, s1.heap.get? b = some u → b ≠ Ia := fun b u e => Nat.ne_of_lt (by rw [← hIa]; exact Heap.lt_size e)
        have all1 : ∀ b u, b ≠ P → s1.heap.get? b = some u → s2.heap.get? b = some u := fun b u hb e => all2 b u (lt1 b u e) (keep3 b u hb e)
        have hok2 : HOk X.prog X.w H1 s2.heap := hok_grow J.hok hP all1 ⟨ps', all2 P _ (Nat.ne_of_lt Plt) hP3, ht3⟩
        have baseP : ∀ b o, X.base.get? b = some o → b ≠ P := fun b o e z => by
          have := (J.bs b o e).2
          rw [z, hP] at this
          cases this
        refine wpAny_mono (hel _ A' E' i y v s2 m2 rfl J.ok.glob J.mod hA hD (Nat.le_trans hU (Nat.le_refl _)) hy ru hn hm hok2 (fun b o e => all1 b o (baseP b o e) (J.bk b o e)) fun y2 j z hf hN hσ => ?_) (fun y3 s3 q => ⟨⟨(List.getElem?_eq_some_iff.mp hy).1, q.1⟩, q.2⟩) fun _ _ e => e
        obtain ⟨mloc, _, look⟩ := J.loc
        have kf := S.free _ (mem_of_look hf) rfl
        obtain ⟨u2, r2, lk⟩ := look j y2 z hN hσ (kf.elim (fun q => .inr (.inl q)) fun q => .inr (.inr q))
        rcases lk with ⟨bad, _⟩ | ⟨_, cl, hcl, isc⟩
        · have bad : X.env.scope.names.lookup y2 = some .local := bad
          rcases kf with q | q
          · have q : X.env.scope.names.lookup y2 = some .cell := q
            rw [q] at bad; cases bad
          · have q : X.env.scope.names.lookup y2 = some .free := q
            rw [q] at bad; cases bad
        · refine ⟨cl, u2, clo_look hf hcl, ?_, r2⟩
          obtain ⟨oc, hoc, hdc⟩ := isc
          refine ⟨oc, all1 cl oc (fun z => ?_) hoc, hdc⟩
          rw [z, hPs] at hoc
          cases hoc
          cases hdc
    · simp only [GxR.passing_true, List.length_range] at W5
      have eN : its.toArray.size = xs.length := by rw [List.size_toArray]; exact hlen
      rw [eN] at W5 hat
      refine hQ xs tr H1 g _ hR ⟨_, _, _, _, _, W5.in4_1, hat, fun j y sj Qj Ej hy hQj => ?_, fun s' hm => ?_⟩
      · obtain ⟨i, hij, hi2, ey⟩ := hy
        subst ey
        obtain ⟨hj, ej⟩ := List.getElem?_eq_some_iff.mp hij
        rw [List.getElem_range] at ej
        subst ej
        exact wpAny_truthy_bool hQj
      · have nwr : ∀ b u, s1.heap.get? b = some u → b ∉ h3.objs.size :: [Ia] := fun b u e hb => by
          have hl := Heap.lt_size e
          have hb2 : b = h3.objs.size ∨ b = Ia := by simpa using hb
          have hl : b < Ia := by rw [← hIa]; exact hl
          rcases hb2 with z | z
          · exact absurd (Nat.lt_trans hl i1) (by rw [z]; exact Nat.lt_irrefl _)
          · exact absurd hl (by rw [z]; exact Nat.lt_irrefl _)
        have G := inv_grow (h' := s'.heap) (g' := s'.gens) (d' := s'.drawn) (t' := s'.toks) J hP (fun b u hb e => hm.heap b u (nwr b u e) (hk5 b u (keep3 b u hb e))) ⟨ps', hm.heap P _ (nwr P _ hPs) (hk5 P _ hP3), ht3⟩ (PyProof.Rows.AllBare.movedS (J.bare.push hgb) hm)
        rwa [GxR.sh_eta s1 s' hm.os] at G
  rw [hIa] at *
  refine ⟨lim2, ?_⟩
  cases hf : codeAmong gpos ps.toList with
  | none =>
    refine wpAny_genexprCodeX hcode (cd.code hP2 ht) (cd.tab hP2) hf fun c' h' tk hx hge hlt hco' _ htab' _ => ?_
    obtain ⟨o1, vs, f1, tf, fl, tg, inF, tx, tt, op, _, _, _, _, _, _, _, _, _, htr, _⟩ := hco'
    exact main _ h' tk _ hx (Nat.le_trans hge (Nat.le_of_lt hlt)) htab'.2 htr
  | some cv => exact wpAny_genexprCode_hit hcode (cd.code hP2 ht) hf (main cv (s1.heap.push o) s1.toks ps (Heap.ExtBut.refl _ _) (Nat.le_refl _) hP2 ht)
end
section
variable {X : Cx} {pins : List (Addr × Obj)} {σ : St} {H : Hp} {s : Shared} {P c : Addr} {elt iter : Expr} {x : Str} {px p pos gpos : PySem.Pos} {scope : Scope} {te : TE} {k : Nat}
def tGenW (X : Cx) (P : Addr) (scope : Scope) (x : Str) (elt : Expr) (ag : (Nat → Bool) → Nat → Bool) (te : TE) : TE := fun σ H Q => te σ H fun v H1 => ∃ (yl : Addr) (xs : List V) (tr : Nat → Bool), v = .ref yl ∧ (SqT X.K H1 yl xs ∨ SqL X.K H1 yl xs) ∧ H1 P = some (tabE P) ∧ EltW X σ H1 scope x elt xs tr ∧ Q (.bl (ag tr xs.length)) H1
theorem pe_allW (hr : Room k X.A) (hg : Gl X "all") (hm : X.mg "all" = none) (TB : GxR.TabB X.base X.mg c P) (hcode : X.env.code = .ref c) (S : GQ X.env.scope scope x) (hi : PE X iter te) (hs : ∀ v, genFold iter X.env v = pure v)
    (he : starEach [.GeneratorExp elt [⟨.Name x px, iter, [], 0⟩] scope gpos] X.env = (false, eval (.GeneratorExp elt [⟨.Name x px, iter, [], 0⟩] scope gpos) X.env) :: starEach [] X.env := by rfl) :
    PE X (.Call (.Name "all" p) [.GeneratorExp elt [⟨.Name x px, iter, [], 0⟩] scope gpos] [] pos) (tGenW X P scope x elt allR te) := by
  refine ⟨fun pins s σ H Q I h => wpAny_Call_Name_kw (ld_blt I hg hm PyProof.Rows.boot_all (PyProof.Rows.callWith_builtin1 ?_ he (by rfl)))⟩
  rw [he]
  show wpAny _ _ (spliced ((false, eval (.GeneratorExp elt [⟨.Name x px, iter, [], 0⟩] scope gpos) X.env) :: backTo pos (starEach [] X.env))) _ _ s
  refine Calls.spliced_cons (gen_w (R := fun xs tr H1 => Q (.bl (allR tr xs.length)) H1) hr TB hcode S hi hs I h fun xs tr H1 g s5 hR hG => Calls.spliced_nil ?_)
  obtain ⟨fp, wr, G, F, St, wk, st0, htr, hI⟩ := hG
  exact call_all_walkS (wk.self 0 _ _ _ st0 ⟨g, fp, wr, G, _, F, St, _, rfl, wk, st0, htr, fun s' mv => ⟨.bl (allR tr xs.length), H1, hI s' mv, rfl, hR⟩⟩)
end
def frees (env : Env) : List Nat → Option (List PyData)
  | [] => some []
  | j :: js => match env[j]?, frees env js with
    | some (some (.sh _ d)), some ds => some (d :: ds)
    | _, _ => none
def seqD : PyData → Option (List PyData)
  | .list ds => some ds
  | .tuple ds => some ds
  | _ => none
def boolsQ : List (Option PyData) → Option (List Bool)
  | [] => some []
  | some (.bool b) :: r => (boolsQ r).map (b :: ·)
  | _ :: _ => none
theorem boolsQ_at : ∀ {l : List (Option PyData)} {bs : List Bool}, boolsQ l = some bs → bs.length = l.length ∧ ∀ (i : Nat) (o : Option PyData), l[i]? = some o → o = some (.bool (bs.getD i false))
  | [], bs, h => by cases h; exact ⟨rfl, fun i o e => by simp at e⟩
  | o :: r, bs, h => by
    unfold boolsQ at h
    split at h
    · rename_i h0; cases h0
    · rename_i b r' h0
      cases h0
      cases z : boolsQ r with
      | none => rw [z] at h; cases h
      | some cs =>
        rw [z] at h; cases h
        obtain ⟨h1, h2⟩ := boolsQ_at z
        refine ⟨by simp [h1], fun i o e => ?_⟩
        cases i with
        | zero => simp at e; rw [← e]; rfl
        | succ i => exact h2 i o (by simpa using e)
    · cases h
def fGenW (ag : List Bool → Bool) (fi : FV) (fr : List Nat) (fq : FQ) : FE := fun env => (fi env).bind fun p => match frees p.1 fr, seqD p.2.2 with
  | some vs, some ds => (match boolsQ (ds.map fun d => fq (some d :: vs.map some)) with
    | some bs => .ok (p.1, .sh true (.bool (ag bs)))
    | none => .bad)
  | _, _ => .bad
theorem frees_at {env : Env} : ∀ {js : List Nat} {ds : List PyData}, frees env js = some ds → ds.length = js.length ∧ ∀ (i : Nat) (d : PyData), ds[i]? = some d → ∃ j n, js[i]? = some j ∧ env[j]? = some (some (.sh n d))
  | [], ds, h => by cases h; exact ⟨rfl, fun i d e => by simp at e⟩
  | j :: js, ds, h => by
    unfold frees at h
    split at h
    · rename_i n d ds' h1 h2
      cases h
      obtain ⟨l1, l2⟩ := frees_at h2
      refine ⟨by simp [l1], fun i d' e => ?_⟩
      cases i with
      | zero => simp at e; subst e; exact ⟨j, n, rfl, h1⟩
      | succ i => exact l2 i d' (by simpa using e)
    · cases h
section
variable {X : Cx} {W : WX} {P c : Addr} {elt iter : Expr} {x nm : Str} {px p pos gpos : PySem.Pos} {scope : Scope} {k : Nat} {fi : FE} {fq : FQ} {ys : List Str} {fr : List Nat}
theorem Room.gen (r : Room (k + 1) X.A) {A : Around} (h1 : A.handled = none) (h2 : A.depth ≤ X.A.depth + 1) (h3 : A.units ≤ X.A.units + 8) : Room k A := ⟨h1, by have := r.dp; omega, by have := r.un; omega⟩
theorem genW_le {ag : List Bool → Bool} {agR : (Nat → Bool) → Nat → Bool} (hag : ∀ bs : List Bool, agR (fun i => bs.getD i false) bs.length = ag bs) (hr : Room (k + 1) X.A) (hnm : nm ∈ tabNames) (ht : PySem.W.tabIn X.K nm = some (c, P)) (hk : scope.kind = .function) (hl : scope.names.lookup x = some .local)
    (hy : ∀ (i : Nat) (y : Str), ys[i]? = some y → scope.names.lookup y = some .free ∧ ∃ j, fr[i]? = some j ∧ X.N[j]? = some y) (hyl : ys.length = fr.length)
    (he : ∀ (cenv : PySem.Env) (A : Around), cenv.scope = scope → QC ⟨X.prog, X.w, X.K, X.mg, X.base, cenv, A⟩ k → QE ⟨X.prog, X.w, X.K, X.mg, X.base, cenv, A⟩ (x :: ys) elt fq) {σ : St} {H : Hp} {Q : VK} (h : tE X.K X.mg W (fGenW ag (st fi) fr fq) σ H Q) :
    tGenW X P scope x elt agR (tD X.K X.mg W (st fi)) σ H Q := by
  obtain ⟨H0, F0, F, env, r, q⟩ := h
  refine ⟨H0, F0, F, env, r, ?_⟩
  unfold fGenW at q
  refine Rs.post_mono (Rs.post_bind.mp q) (fun p hp v F1 H1 r1 hv e1 e2 => ?_) fun _ _ z => z
  obtain ⟨env1, n, d⟩ := p
  dsimp only at hp hv r1
  split at hp
  · rename_i vs ds g1 g2
    split at hp
    · rename_i bs g3
      obtain ⟨b1, b2⟩ := boolsQ_at g3
      obtain ⟨f1, f2⟩ := frees_at g1
      have key : ∃ (yl : Addr) (xs : List V), v = .ref yl ∧ (SqT X.K H1 yl xs ∨ SqL X.K H1 yl xs) ∧ IsA X.K H0 n F1 xs ds := by
        unfold seqD at g2
        split at g2
        · cases g2
          cases hv with
          | lst hs hw ha => exact ⟨_, _, rfl, .inr ((r1.fz).seq hs), ha⟩
        · cases g2
          cases hv with
          | tup hs ha => exact ⟨_, _, rfl, .inl (hs.to r1.fz).sq, ha⟩
        · cases g2
      obtain ⟨yl, xs, rfl, hsq, ha⟩ := key
      refine ⟨yl, xs, fun i => bs.getD i false, rfl, hsq, r1.fz _ _ (r1.tabs nm hnm c P ht), ?_, ?_⟩
      · intro cenv A' E' i v u s2 m2 hsc hglo hmod hA hD hU hxi ru hn hm ok hb cap
        obtain ⟨di, hdi, idi⟩ := ha.getV hxi
        have C : QC ⟨X.prog, X.w, X.K, X.mg, X.base, cenv, A'⟩ k := ⟨hmod, by show cenv.scope.kind = _; rw [hsc]; exact hk, hglo, Room.gen hr hA hD hU⟩
        have hfq : fq (some di :: vs.map some) = some (.bool (bs.getD i false)) := b2 i _ (by rw [List.getElem?_map, hdi]; rfl)
        have qs : QSt ⟨X.prog, X.w, X.K, X.mg, X.base, cenv, A'⟩ F1 H1 (x :: ys) (some di :: vs.map some) s2 := by
          refine ⟨ok, hb, r1.fz, fun j d2 hj y hyj => ?_⟩
          cases j with
          | zero =>
            simp at hj hyj
            subst hj hyj
            exact ⟨u, v, ru, Is.weak idi (Same.refl _), .inl ⟨by show cenv.scope.names.lookup x = _; rw [hsc]; exact hl, m2, hn, hm⟩⟩
          | succ j =>
            have hj : (vs.map some)[j]? = some (some d2) := by simpa using hj
            have hyj : ys[j]? = some y := by simpa using hyj
            have hvj : vs[j]? = some d2 := by
              rw [List.getElem?_map] at hj
              cases z : vs[j]? with
              | none => rw [z] at hj; cases hj
              | some w => rw [z] at hj; exact congrArg some (Option.some.inj (Option.some.inj hj))
            obtain ⟨yf, jj, hjj, hNj⟩ := hy j y hyj
            obtain ⟨j2, n2, hj2, hsl⟩ := f2 j d2 hvj
            rw [hjj] at hj2; cases hj2
            obtain ⟨fp, rf⟩ := _root_.id r1
            obtain ⟨z, hz1, hz2⟩ := rf.sl jj _ hsl
            obtain ⟨cc, w, c1, c2, c3⟩ := cap y jj z yf hNj hz1
            exact ⟨w, z, c3, Is.weak (show Is X.K H0 n2 F1 z d2 from hz2) (Same.refl _), .inr ⟨by show cenv.scope.names.lookup y = _; rw [hsc]; exact yf, cc, c1, c2⟩⟩
        refine wpAny_mono (he cenv A' hsc C F1 H1 _ s2 _ E' qs hfq) (fun y2 s3 ⟨v2, r2, iv2, k2⟩ => ⟨?_, k2⟩) fun _ _ z => z
        rw [is_bl0 iv2] at r2
        exact r2
      · have hlen : xs.length = bs.length := by rw [b1, List.length_map, ha.length]
        rw [hlen, hag]
        exact hp _ F1 H1 ⟨r1, .bl _⟩ e1 e2
    · exact hp.elim
  · exact hp.elim
theorem d_allW (hr : Room (k + 1) X.A) (hg : Gl X "all") (hm : X.mg "all" = none) (TB : TabsB X.K X.base X.mg) (hnm : nm ∈ tabNames) (ht : PySem.W.tabIn X.K nm = some (c, P)) (hcode : X.env.code = .ref c) (S : GQ X.env.scope scope x) (hi : DE X W iter fi)
    (hy : ∀ (i : Nat) (y : Str), ys[i]? = some y → scope.names.lookup y = some .free ∧ ∃ j, fr[i]? = some j ∧ X.N[j]? = some y) (hyl : ys.length = fr.length)
    (hq : ∀ (cenv : PySem.Env) (A : Around), cenv.scope = scope → QC ⟨X.prog, X.w, X.K, X.mg, X.base, cenv, A⟩ k → QE ⟨X.prog, X.w, X.K, X.mg, X.base, cenv, A⟩ (x :: ys) elt fq)
    (hs : ∀ v, genFold iter X.env v = pure v := by intro _; rfl)
    (he : starEach [.GeneratorExp elt [⟨.Name x px, iter, [], 0⟩] scope gpos] X.env = (false, eval (.GeneratorExp elt [⟨.Name x px, iter, [], 0⟩] scope gpos) X.env) :: starEach [] X.env := by rfl) :
    DE X W (.Call (.Name "all" p) [.GeneratorExp elt [⟨.Name x px, iter, [], 0⟩] scope gpos] [] pos) (fGenW (fun bs => bs.all id) (st fi) fr fq) :=
  pe_le (pe_allW hr hg hm (TB.gen nm hnm c P ht) hcode S hi.d hs he) fun σ H Q q => genW_le gen_all hr hnm ht S.kind S.loc hy hyl hq q
end
section
variable {β : Type} {h : HX β} {env : Env} {fi : FV} {fr : List Nat} {fq : FQ} {ag : List Bool → Bool}
def genK (ag : List Bool → Bool) (fr : List Nat) (fq : FQ) (e : Env) (d : PyData) (k : Env → R → Rs β) : Rs β := match frees e fr, seqD d with
  | some vs, some ds => (match boolsQ (ds.map fun d => fq (some d :: vs.map some)) with
    | some bs => k e (.sh true (.bool (ag bs)))
    | none => .bad)
  | _, _ => .bad
@[simp ↓] theorem cE_genW {k : Env → R → Rs β} : cE (fGenW ag fi fr fq) env h k = cV fi env h fun e _ d => genK ag fr fq e d k := by
  unfold cE cV fGenW
  rw [on_bind]
  refine congrArg _ (funext fun p => ?_)
  obtain ⟨e, n, d⟩ := p
  unfold genK
  dsimp only
  split
  · split <;> rfl
  · rfl
theorem boolsQ_map {α : Type} {f : α → Option PyData} {g : α → Bool} : ∀ {l : List α}, (∀ a ∈ l, f a = some (.bool (g a))) → boolsQ (l.map f) = some (l.map g)
  | [], _ => rfl
  | a :: l, hf => by
    rw [List.map_cons, hf a List.mem_cons_self]
    unfold boolsQ
    rw [boolsQ_map fun b hb => hf b (List.mem_cons_of_mem _ hb)]; rfl
theorem genK_t {α : Type} {c : α → PyData} {g : α → Bool} {l : List α} {vs : List PyData} {k : Env → R → Rs β} (h1 : frees env fr = some vs) (h2 : ∀ a ∈ l, fq (some (c a) :: vs.map some) = some (.bool (g a))) : genK ag fr fq env (.tuple (l.map c)) k = k env (.sh true (.bool (ag (l.map g)))) := by
  unfold genK
  rw [h1]
  show (match boolsQ ((l.map c).map fun d => fq (some d :: vs.map some)) with | some bs => k env (.sh true (.bool (ag bs))) | none => .bad) = _
  rw [List.map_map, boolsQ_map (g := g) (f := (fun d => fq (some d :: vs.map some)) ∘ c) h2]
end
end Dn
namespace Dn
open PySem PySem.Spec L2 A1 A2 A3
def fChn : List (Int → Int → Bool) → List FV → Int → Env → Rs (Env × Bool)
  | [o], [f], i, env => (f env).bind fun p => match p.2.2 with
    | .int j => .ok (p.1, o i j)
    | _ => .bad
  | o :: os, f :: fs, i, env => (f env).bind fun p => match p.2.2 with
    | .int j => if o i j = true then fChn os fs j p.1 else .ok (p.1, false)
    | _ => .bad
  | _, _, _, _ => .bad
def fChI (os : List (Int → Int → Bool)) (f : FV) (fs : List FV) : FE := fun env => (f env).bind fun p => match p.2.2 with
  | .int i => (fChn os fs i p.1).bind fun q => .ok (q.1, .sh true (.bool q.2))
  | _ => .bad
inductive ChOk (X : Cx) (W : WX) : List CmpOp → List Expr → List (Int → Int → Bool) → List FV → Prop
  | last {op : CmpOp} {o : Int → Int → Bool} {e : Expr} {f : FE} : OpR X (compareOp op) (rI0 fun i j => .bl (o i j)) → DE X W e f → ChOk X W [op] [e] [o] [rd f]
  | link {op op2 : CmpOp} {ops : List CmpOp} {e e2 : Expr} {es : List Expr} {o : Int → Int → Bool} {os : List (Int → Int → Bool)} {f : FE} {fs : List FV} : OpR X (compareOp op) (rI0 fun i j => .bl (o i j)) → DE X W e f → ChOk X W (op2 :: ops) (e2 :: es) os fs → ChOk X W (op :: op2 :: ops) (e :: e2 :: es) (o :: os) (rd f :: fs)
def tChn (K : PySem.W.Frag) (mg : Str → Option Value) (W : WX) (os : List (Int → Int → Bool)) (fs : List FV) (i : Int) : TE := fun σ H Q => ∃ H0 F0 F env, Rel K H0 F0 env σ F H ∧
  (fChn os fs i env).post (fun p => ∀ F' H', Rel K H0 F0 p.1 σ F' H' → Sm H H' → Same F F' → Q (.bl p.2) H') (ExP K mg W H0 F0 F H σ)
section
variable {X : Cx} {W : WX}
theorem fChn_two {o : Int → Int → Bool} {os : List (Int → Int → Bool)} {f : FV} {fs : List FV} {i : Int} {env : Env} (h : os ≠ [] ∨ fs ≠ []) : fChn (o :: os) (f :: fs) i env = (f env).bind fun p => match p.2.2 with
    | .int j => if o i j = true then fChn os fs j p.1 else .ok (p.1, false)
    | _ => .bad := by
  cases os with
  | nil =>
    cases fs with
    | nil => rcases h with h | h <;> exact absurd rfl h
    | cons g gs => rfl
  | cons o2 os => rfl
theorem ch_ne {ops : List CmpOp} {es : List Expr} {os : List (Int → Int → Bool)} {fs : List FV} (h : ChOk X W ops es os fs) : os ≠ [] := by cases h <;> exact List.cons_ne_nil _ _
theorem chn_read {f : FV} {k : Int → Env → Rs (Env × Bool)} {σ : St} {H : Hp} {Q : VK} (h : ∃ H0 F0 F env, Rel X.K H0 F0 env σ F H ∧ ((f env).bind fun p => match p.2.2 with
      | .int j => k j p.1
      | _ => .bad).post (fun p => ∀ F' H', Rel X.K H0 F0 p.1 σ F' H' → Sm H H' → Same F F' → Q (.bl p.2) H') (ExP X.K X.mg W H0 F0 F H σ)) :
    tV X.K X.mg W f σ H fun v H1 => ∃ j, v = .int j ∧ ∃ H0 F0 F env, Rel X.K H0 F0 env σ F H1 ∧ (k j env).post (fun p => ∀ F' H', Rel X.K H0 F0 p.1 σ F' H' → Sm H1 H' → Same F F' → Q (.bl p.2) H') (ExP X.K X.mg W H0 F0 F H1 σ) := by
  obtain ⟨H0, F0, F, env, r, q⟩ := h
  refine ⟨H0, F0, F, env, r, Rs.post_mono (Rs.post_bind.mp q) (fun p hp v F1 H1 r1 hv e1 e2 => ?_) fun _ _ z => z⟩
  obtain ⟨env1, n, d⟩ := p
  dsimp only at hp r1 hv
  split at hp
  · rename_i j
    exact ⟨j, vw_int hv, H0, F0, F1, env1, r1, Rs.post_mono hp (fun p hq F' H' r' a b => hq F' H' r' (e1.trans a) (e2.trans b)) fun _ _ z => z.to e2 e1⟩
  · exact hp.elim
theorem chn_run {ops : List CmpOp} {es : List Expr} {os : List (Int → Int → Bool)} {fs : List FV} {pos : PySem.Pos} (h : ChOk X W ops es os fs) : ∀ (pins : List (Addr × Obj)) (s : Shared) (σ : St) (H : Hp) (i : Int) (u : Value) (Q : VK), L2.Inv X pins σ H s → RelV (.int i) u → tChn X.K X.mg W os fs i σ H Q →
    wpAny (model X.prog X.w) X.A (compareChain pos u ops (evalEach es X.env)) (EP X pins σ Q) X.xe s := by
  induction h with
  | @last op o e f ho he =>
    intro pins s σ H i u Q I ru q
    have q := chn_read (X := X) (W := W) (f := rd f) (k := fun j env => .ok (env, o i j)) q
    refine PyProof.Rows.chain_last (thn (he.v.run pins s σ H _ I q) fun v s1 ⟨x, H1, I1, r1, j, e, H0, F0, F, env, r2, q2⟩ => ?_)
    subst e
    exact ho pins s1 σ H1 (.int i) (.int j) u v Q I1 ru r1 ⟨i, j, rfl, rfl, q2 F H1 r2 (Sm.refl _) (Same.refl _)⟩
  | @link op op2 ops e e2 es o os f fs ho he hc ih =>
    intro pins s σ H i u Q I ru q
    unfold tChn at q
    simp only [fChn_two (f := rd f) (o := o) (.inl (ch_ne hc))] at q
    have q := chn_read (X := X) (W := W) (f := rd f) (k := fun j env => if o i j = true then fChn os fs j env else .ok (env, false)) q
    refine PyProof.Rows.chain_link (thn (he.v.run pins s σ H _ I q) fun v s1 ⟨x, H1, I1, r1, j, e, H0, F0, F, env, r2, q2⟩ => ?_)
    subst e
    refine thn (ho pins s1 σ H1 (.int i) (.int j) u v (fun z H2 => z = .bl (o i j) ∧ H2 = H1) I1 ru r1 ⟨i, j, rfl, rfl, rfl, rfl⟩) fun d s2 ⟨z, H2, I2, r3, e3, e4⟩ => ?_
    subst e3 e4
    cases (show d = Value.bool (o i j) from r3)
    refine wpAny_truthy_bool ?_
    cases w : o i j with
    | true =>
      rw [w] at q2
      exact PyProof.Rows.ite_tt (ih pins s2 σ H2 j v Q I2 r1 ⟨H0, F0, F, env, r2, q2⟩)
    | false =>
      rw [w] at q2
      exact PyProof.Rows.ite_ff ⟨.bl false, H2, I2, rfl, q2 F H2 r2 (Sm.refl _) (Same.refl _)⟩
theorem chn_test {ops : List CmpOp} {es : List Expr} {os : List (Int → Int → Bool)} {fs : List FV} {pos : PySem.Pos} (h : ChOk X W ops es os fs) : ∀ (pins : List (Addr × Obj)) (s : Shared) (σ : St) (H : Hp) (i : Int) (u : Value) (Q : Bool → Hp → Prop), L2.Inv X pins σ H s → RelV (.int i) u → tChn X.K X.mg W os fs i σ H (fun x H1 => ∃ c, x = .bl c ∧ Q c H1) →
    wpAny (model X.prog X.w) X.A (testChain pos u ops (evalEach es X.env)) (TP X pins σ Q) X.xe s := by
  induction h with
  | @last op o e f ho he =>
    intro pins s σ H i u Q I ru q
    have q := chn_read (X := X) (W := W) (Q := fun x H1 => ∃ c, x = .bl c ∧ Q c H1) (σ := σ) (H := H) (f := rd f) (k := fun j env => .ok (env, o i j)) q
    refine PyProof.Rows.test_last (thn (he.v.run pins s σ H _ I q) fun v s1 ⟨x, H1, I1, r1, j, e, H0, F0, F, env, r2, q2⟩ => ?_)
    subst e
    refine thn (ho pins s1 σ H1 (.int i) (.int j) u v (fun z H2 => z = .bl (o i j) ∧ H2 = H1) I1 ru r1 ⟨i, j, rfl, rfl, rfl, rfl⟩) fun d s2 ⟨z, H2, I2, r3, e3, e4⟩ => ?_
    subst e3 e4
    cases (show d = Value.bool (o i j) from r3)
    obtain ⟨c, hc, q3⟩ := q2 F H2 r2 (Sm.refl _) (Same.refl _)
    cases hc
    exact wpAny_truthy_bool ⟨H2, I2, q3⟩
  | @link op op2 ops e e2 es o os f fs ho he hc ih =>
    intro pins s σ H i u Q I ru q
    unfold tChn at q
    simp only [fChn_two (f := rd f) (o := o) (.inl (ch_ne hc))] at q
    have q := chn_read (X := X) (W := W) (Q := fun x H1 => ∃ c, x = .bl c ∧ Q c H1) (σ := σ) (H := H) (f := rd f) (k := fun j env => if o i j = true then fChn os fs j env else .ok (env, false)) q
    refine PyProof.Rows.test_link (thn (he.v.run pins s σ H _ I q) fun v s1 ⟨x, H1, I1, r1, j, e, H0, F0, F, env, r2, q2⟩ => ?_)
    subst e
    refine thn (ho pins s1 σ H1 (.int i) (.int j) u v (fun z H2 => z = .bl (o i j) ∧ H2 = H1) I1 ru r1 ⟨i, j, rfl, rfl, rfl, rfl⟩) fun d s2 ⟨z, H2, I2, r3, e3, e4⟩ => ?_
    subst e3 e4
    cases (show d = Value.bool (o i j) from r3)
    refine wpAny_truthy_bool ?_
    cases w : o i j with
    | true =>
      rw [w] at q2
      exact PyProof.Rows.ite_tt (ih pins s2 σ H2 j v Q I2 r1 ⟨H0, F0, F, env, r2, q2⟩)
    | false =>
      rw [w] at q2
      obtain ⟨c, hc, q3⟩ := q2 F H2 r2 (Sm.refl _) (Same.refl _)
      cases hc
      exact PyProof.Rows.ite_ff ⟨H2, I2, q3⟩
section
variable {a b c : Expr} {fa : FE} {op op2 : CmpOp} {ops : List CmpOp} {es : List Expr} {os : List (Int → Int → Bool)} {fs : List FV} {pos : PySem.Pos}
theorem chI_head {σ : St} {H : Hp} {Q : VK} (h : tE X.K X.mg W (fChI os (rd fa) fs) σ H Q) : tV X.K X.mg W (rd fa) σ H fun v H1 => ∃ i, v = .int i ∧ tChn X.K X.mg W os fs i σ H1 Q := by
  obtain ⟨H0, F0, F, env, r, q⟩ := h
  refine ⟨H0, F0, F, env, r, ?_⟩
  unfold fChI at q
  refine Rs.post_mono (Rs.post_bind.mp q) (fun p hp v F1 H1 r1 hv e1 e2 => ?_) fun _ _ z => z
  obtain ⟨env1, n, d⟩ := p
  dsimp only at hp r1 hv
  split at hp
  · rename_i i
    refine ⟨i, vw_int hv, H0, F0, F1, env1, r1, Rs.post_mono (Rs.post_bind.mp hp) (fun p hq F' H' r' a b => ?_) fun _ _ z => z.to e2 e1⟩
    exact hq (.bl p.2) F' H' ⟨r', .bl _⟩ (e1.trans a) (e2.trans b)
  · exact hp.elim
theorem d_chn (ha : DE X W a fa) (hc : ChOk X W (op :: op2 :: ops) (b :: c :: es) os fs) (hm : lastMarks (op :: op2 :: ops) (b :: c :: es) = false := by with_unfolding_all rfl) : DE X W (.Compare a (op :: op2 :: ops) (b :: c :: es) pos) (fChI os (rd fa) fs) := ⟨fun pins s σ H Q I h => by
  refine PyProof.Rows.Compare_chain (thn (ha.v.run pins s σ H _ I (chI_head h)) fun v s1 ⟨x, H1, I1, r1, i, e, q⟩ => ?_) hm
  subst e
  exact chn_run hc pins s1 σ H1 i v Q I1 r1 q⟩
theorem t_chn (ha : DE X W a fa) (hc : ChOk X W (op :: op2 :: ops) (b :: c :: es) os fs) (hm : lastMarks (op :: op2 :: ops) (b :: c :: es) = false := by with_unfolding_all rfl) : DT X W (.Compare a (op :: op2 :: ops) (b :: c :: es) pos) (fB (rd (fChI os (rd fa) fs))) := ⟨fun pins s σ H Q I h => by
  refine PyProof.Rows.isTrue_chain (thn (ha.v.run pins s σ H _ I (chI_head (tV_rd (tV_lent h)))) fun v s1 ⟨x, H1, I1, r1, i, e, q⟩ => ?_) hm
  subst e
  exact chn_test hc pins s1 σ H1 i v Q I1 r1 q⟩
end
end
section
variable {β : Type} {h : HX β} {env : Env} {f : FV} {fs : List FV} {os : List (Int → Int → Bool)}
def chnK : List (Int → Int → Bool) → List FV → Int → Env → HX β → (Env → Bool → Rs β) → Rs β
  | [o], [f], i, env, h, k => cV f env h fun e _ d => match d with
    | .int j => k e (o i j)
    | _ => .bad
  | o :: os, f :: fs, i, env, h, k => cV f env h fun e _ d => match d with
    | .int j => if o i j = true then chnK os fs j e h k else k e false
    | _ => .bad
  | _, _, _, _, _, _ => .bad
theorem chnK_eq : ∀ (os : List (Int → Int → Bool)) (fs : List FV) (i : Int) (env : Env) (h : HX β) (k : Env → Bool → Rs β), on (fChn os fs i env) h (fun p => k p.1 p.2) = chnK os fs i env h k
  | [o], [f], i, env, h, k => by
    unfold fChn chnK cV
    rw [on_bind]
    refine congrArg _ (funext fun p => ?_)
    obtain ⟨e, n, d⟩ := p
    cases d <;> rfl
  | o :: o2 :: os, f :: fs, i, env, h, k => by
    rw [fChn_two (.inl (List.cons_ne_nil _ _))]
    show _ = cV f env h fun e _ d => match d with
      | .int j => if o i j = true then chnK (o2 :: os) fs j e h k else k e false
      | _ => .bad
    unfold cV
    rw [on_bind]
    refine congrArg _ (funext fun p => ?_)
    obtain ⟨e, n, d⟩ := p
    cases d with
    | int j =>
      show on (if o i j = true then fChn (o2 :: os) fs j e else .ok (e, false)) h _ = if o i j = true then chnK (o2 :: os) fs j e h k else k e false
      split
      · exact chnK_eq (o2 :: os) fs j e h k
      · rfl
    | _ => rfl
  | o :: os, f :: f2 :: fs, i, env, h, k => by
    rw [fChn_two (.inr (List.cons_ne_nil _ _))]
    have e : chnK (o :: os) (f :: f2 :: fs) i env h k = cV f env h fun e _ d => match d with
      | .int j => if o i j = true then chnK os (f2 :: fs) j e h k else k e false
      | _ => .bad := by cases os <;> rfl
    rw [e]
    unfold cV
    rw [on_bind]
    refine congrArg _ (funext fun p => ?_)
    obtain ⟨e, n, d⟩ := p
    cases d with
    | int j =>
      show on (if o i j = true then fChn os (f2 :: fs) j e else .ok (e, false)) h _ = if o i j = true then chnK os (f2 :: fs) j e h k else k e false
      split
      · exact chnK_eq os (f2 :: fs) j e h k
      · rfl
    | _ => rfl
  | [], _, _, _, _, _ => by cases ‹List FV› <;> rfl
  | _ :: _, [], _, _, _, _ => by rename_i a b _ _ _ _; cases b <;> rfl
def chiK (d : PyData) (k : Int → Rs β) : Rs β := match d with
  | .int i => k i
  | _ => .bad
@[simp ↓] theorem chiK_i {i : Int} {k : Int → Rs β} : chiK (.int i) k = k i := id rfl
@[simp ↓] theorem cE_chI {k : Env → R → Rs β} : cE (fChI os f fs) env h k = cV f env h fun e _ d => chiK d fun i => chnK os fs i e h fun e b => k e (.sh true (.bool b)) := by
  unfold cE cV fChI
  rw [on_bind]
  refine congrArg _ (funext fun p => ?_)
  obtain ⟨e, n, d⟩ := p
  cases d with
  | int i =>
    show on ((fChn os fs i e).bind _) h _ = chnK os fs i e h _
    rw [on_bind, ← chnK_eq]
    rfl
  | _ => rfl
@[simp ↓] theorem chnK_1 {o : Int → Int → Bool} {i : Int} {k : Env → Bool → Rs β} : chnK [o] [f] i env h k = cV f env h fun e _ d => chiK d fun j => k e (o i j) := by
  unfold chnK chiK
  refine congrArg _ (funext fun e => funext fun n => funext fun d => ?_)
  cases d <;> rfl
@[simp ↓] theorem chnK_2 {o o2 : Int → Int → Bool} {os : List (Int → Int → Bool)} {i : Int} {k : Env → Bool → Rs β} : chnK (o :: o2 :: os) (f :: fs) i env h k = cV f env h fun e _ d => chiK d fun j => ifK (o i j) (chnK (o2 :: os) fs j e h k) (k e false) := by
  show (cV f env h fun e _ d => match d with
      | .int j => if o i j = true then chnK (o2 :: os) fs j e h k else k e false
      | _ => .bad) = _
  refine congrArg _ (funext fun e => funext fun n => funext fun d => ?_)
  cases d <;> rfl
end
def FyOk (N : List Str) (scope : Scope) (ys : List Str) (fr : List Nat) : Prop := (∀ (i : Nat) (y : Str), ys[i]? = some y → scope.names.lookup y = some .free ∧ ∃ j, fr[i]? = some j ∧ N[j]? = some y) ∧ ys.length = fr.length
theorem fy_nil {N : List Str} {scope : Scope} : FyOk N scope [] [] := ⟨fun i y h => by simp at h, rfl⟩
section
variable {X : Cx} {W : WX} {P c : Addr} {elt iter : Expr} {x nm : Str} {px p pos gpos : PySem.Pos} {scope : Scope} {k : Nat} {fi : FE} {fq : FQ} {ys : List Str} {fr : List Nat}
theorem d_allV (hr : Room (k + 1) X.A) (hg : Gl X "all") (hm : X.mg "all" = none) (TB : TabsB X.K X.base X.mg) (hnm : nm ∈ tabNames) (ht : PySem.W.tabIn X.K nm = some (c, P)) (hcode : X.env.code = .ref c) (S : GQ X.env.scope scope x) (hi : DE X W iter fi) (hf : FyOk X.N scope ys fr)
    (hq : ∀ (cenv : PySem.Env) (A : Around), cenv.scope = scope → QC ⟨X.prog, X.w, X.K, X.mg, X.base, cenv, A⟩ k → QE ⟨X.prog, X.w, X.K, X.mg, X.base, cenv, A⟩ (x :: ys) elt fq)
    (hs : ∀ v, genFold iter X.env v = pure v := by intro _; rfl)
    (he : starEach [.GeneratorExp elt [⟨.Name x px, iter, [], 0⟩] scope gpos] X.env = (false, eval (.GeneratorExp elt [⟨.Name x px, iter, [], 0⟩] scope gpos) X.env) :: starEach [] X.env := by rfl) :
    DE X W (.Call (.Name "all" p) [.GeneratorExp elt [⟨.Name x px, iter, [], 0⟩] scope gpos] [] pos) (fGenW (fun bs => bs.all id) (st fi) fr fq) := d_allW hr hg hm TB hnm ht hcode S hi hf.1 hf.2 hq hs he
end
end Dn
namespace Dn
open PySem PySem.Spec L2 A1 A2 A3
section
variable {X : Cx}
end
section
variable {β : Type} {h : HX β} {n m : Bool}
end
end Dn
namespace Dn
open PySem PySem.Spec L2 A1 A2 A3
def xInts : List (Str × V) → Option (List (Str × Int))
  | [] => some []
  | (k, .int i) :: r => (xInts r).map fun q => (k, i) :: q
  | _ :: _ => none
def offO (i : Nat) : Out → Out
  | .nx e => .nx (e.set i none)
  | .bk e => .bk (e.set i none)
  | .ct e => .ct (e.set i none)
  | .rt r => .rt r
def tryR (t : List (Str × Addr × Bool)) (i : Nat) (fs : FS) (r : Rs Out) : Rs Out := match r with
  | .ex e x => match t.find? fun p => p.1 == x.cls with
    | some (_, C, true) => match xInts x.fs with
      | some is => (noex (fs (e.set i (some (.sh true (encX C is)))))).bind fun o => .ok (offO i o)
      | none => .bad
    | some (_, _, false) => .ex e x
    | none => .bad
  | .ch m f => .ch m fun j => tryR t i fs (f j)
  | .ok o => .ok o
  | .bad => .bad
def fTry (t : List (Str × Addr × Bool)) (i : Nat) (fb fs : FS) : FS := fun env => tryR t i fs (fb env)
section
variable {K : PySem.W.Frag} {H0 F0 F H : Hp} {env : Env} {σ : St}
theorem Rel.off {i : Nat} (r : Rel K H0 F0 env σ F H) : Rel K H0 F0 (env.set i none) (σ.set i none) F H := by
  refine r.sub (by simp [r.len]) fun j s q => ?_
  rcases set_get q with ⟨hj, hx⟩ | ⟨hj, hx⟩
  · cases hx
  · exact .inl ⟨hx, List.getElem?_set_ne (Ne.symm hj)⟩
end
section
variable {X : Cx} {x n : Str} {c : Value} {i : Nat} {body suite : List Stmt} {b₀ : Stmt} {np pos pos' : PySem.Pos} {W : WX} {fb fs : FS} {t : List (Str × Addr × Bool)}
end
theorem s_raise0p {X : Cx} {W : WX} {p pos pos2 : PySem.Pos} {C : Addr} {bmB : List Value} {B newId initId : String} {x : Str} (hc : X.calm = true) (tk : Takes X W) (F : ExcBaseFacts B newId initId bmB) (q : PySem.W.excIn X.K C bmB newId = true) (gC : X.mg x = some (.ref C)) (kC : PySem.W.keepIn X.K (.ref C) = true) (r : Raises X (.ref C)) (hg : Gl X x) (hdb : (x == ("__debug__" : Str)) = false := by decide) :
    DS X W (.Raise (some (.Call (.Name x p) [] [] pos2)) none pos) (fRaise0 x) :=
  ps_le (ps_raise hc tk (pmk_mk0 F q gC kC r hg hdb)) fun D σ H ⟨H0, F0, F, env, r, q⟩ => by
    have q : ExS X.K X.mg W H0 F0 F env ⟨x, []⟩ := q
    exact q (.ref C) none σ F H r (Same.refl F) H ⟨gC, ⟨C, rfl⟩, rfl, rfl⟩
section
variable {β : Type} {env : Env} {h : HX β} {i : Nat} {fb fs : FS} {C : Addr} {names : List Str} {fa : FA} {x : Str}
def tryK (t : List (Str × Addr × Bool)) (i : Nat) (fs : FS) (h : HX β) (k : Out → Rs β) : HX β := fun e x => match t.find? fun p => p.1 == x.cls with
  | some (_, C, true) => match xInts x.fs with
    | some is => cO fs (e.set i (some (.sh true (encX C is)))) (fun _ _ => .bad) fun o => k (offO i o)
    | none => .bad
  | some (_, _, false) => h e x
  | none => .bad
@[simp ↓] theorem cO_try {t : List (Str × Addr × Bool)} {k : Out → Rs β} : cO (fTry t i fb fs) env h k = cO fb env (tryK t i fs h k) k := by
  unfold cO fTry tryK
  generalize fb env = r
  induction r with
  | bad => rfl
  | ok o => rfl
  | ch m f ih => exact congrArg (Rs.ch m) (funext ih)
  | ex e x =>
    unfold tryR
    show _ = tryK t i fs h k e x
    unfold tryK
    cases t.find? fun p => p.1 == x.cls with
    | none => rfl
    | some p =>
      obtain ⟨_, C, b⟩ := p
      cases b with
      | false => rfl
      | true =>
        dsimp only
        cases xInts x.fs with
        | none => rfl
        | some is =>
          dsimp only
          show on ((noex (fs (e.set i (some (.sh true (encX C is)))))).bind fun o => .ok (offO i o)) h k = cO fs (e.set i (some (.sh true (encX C is)))) (fun _ _ => .bad) fun o => k (offO i o)
          rw [on_bind]
          unfold cO
          generalize fs (e.set i (some (.sh true (encX C is)))) = r
          induction r with
          | ch m f ih => exact congrArg (Rs.ch m) (funext ih)
          | _ => rfl
def riK (x : Str) (names : List Str) (ds : List PyData) (e : Env) (h : HX β) : Rs β := match intsOf ds with
  | some is => grd (decide (is.length = names.length) && decide (is.length ≤ 1000)) (h e ⟨x, (names.zip is).reverse.map fun p => (p.1, V.int p.2)⟩)
  | none => .bad
@[simp ↓] theorem cO_raiseI {k : Out → Rs β} : cO (fRaiseI x names fa) env h k = cA fa env h fun e ps => cD ps fun ds => riK x names ds e h := by
  unfold cO cA fRaiseI
  rw [on_bind]
  refine congrArg _ (funext fun p => ?_)
  dsimp only
  rw [cD_eq]
  unfold riK
  cases intsOf (p.2.map fun d => d.2) with
  | none => rfl
  | some is => exact on_grd _ _ _ _
@[simp ↓] theorem riK_1 {y : Str} {j : Int} {e : Env} : riK x [y] [.int j] e h = h e ⟨x, [(y, .int j)]⟩ := id rfl
end
end Dn
namespace Dn
open PySem PySem.Spec L2 A1 A2 A3
def chs (x : Str) : List V := x.cps.toList.map fun c => V.str ⟨#[c]⟩
section
variable {X : Cx} {pins : List (Addr × Obj)} {σ : St} {H : Hp} {s : Shared} {P : Addr}
theorem gen_s {c : Addr} {elt iter : Expr} {x : Str} {px gpos : PySem.Pos} {scope : Scope} {te : TE} {k : Nat} {Q' : Value → Shared → Prop} {R : Str → (Nat → Bool) → Hp → Prop}
    (hr : Room k X.A) (TB : GxR.TabB X.base X.mg c P) (hcode : X.env.code = .ref c) (S : GQ X.env.scope scope x) (hi : PE X iter te) (hs : ∀ v, genFold iter X.env v = pure v) (I : L2.Inv X pins σ H s)
    (h : te σ H fun v H1 => ∃ (tx : Str) (tr : Nat → Bool), v = .str tx ∧ H1 P = some (tabE P) ∧ EltW X σ H1 scope x elt (chs tx) tr ∧ R tx tr H1)
    (hQ : ∀ tx tr H1 g s5, R tx tr H1 → ReadyQ X pins σ H1 (chs tx).length tr g s5 → Q' (.ref g) s5) :
    wpAny (model X.prog X.w) X.A (eval (.GeneratorExp elt [⟨.Name x px, iter, [], 0⟩] scope gpos) X.env) Q' X.xe s := by
  have capt : ∀ y ∈ scope.names, y.2 = .free → ∃ c, X.env.cells.lookup y.1 = some c := fun y hy e => (S.free y hy e).elim (fun z => I.ok.has _ (.inl z)) fun z => I.ok.has _ (.inr z)
  refine wpAny_GeneratorExp_walksQD hr.hd S.co (closure_ok capt) S.cell S.dot S.loc S.kind (Nat.lt_of_le_of_lt (Nat.le_refl _) (by have := hr.dp; omega)) ?_ hs
  refine thn (hi.run pins s σ H _ I h) fun xv s1 ⟨v, H1, J, rv1, tx, tr, ev, hP, hel, hR⟩ => ?_
  subst ev
  obtain ⟨tt, exv⟩ : ∃ t, xv = .str tx t := rv1
  subst exv
  refine wpAny_pyIter_str fun o S0 WS hS0 => ?_
  generalize hIa : s1.heap.objs.size = Ia at WS hS0 ⊢
  obtain ⟨⟨ps, hPs, ht⟩, _⟩ := (show ObjOk X.prog X.w H1 s1.heap P (tabE P) from J.hok P _ hP)
  have Plt : P < Ia := by rw [← hIa]; exact Heap.lt_size hPs
  have hP2 : (s1.heap.push o).get? P = some { cls := .none, data := .fields ps } := Heap.get?_push_of_some _ hPs
  have cd : PySem.W.CodeHd (s1.heap.push o) c P := TB.code.keeps fun b u e => Heap.get?_push_of_some _ (J.bk b u e)
  have lim2 : (s1.heap.push o).NoLimit := J.nolimit.push o
  have main : ∀ (code : Value) (h3 : Heap) (tk : Nat) (ps' : Array Value), Heap.ExtBut P (s1.heap.push o) h3 → (s1.heap.push o).objs.size ≤ h3.objs.size → h3.get? P = some { cls := .none, data := .fields ps' } → TriplesOk ps'.toList →
      wpAny (model X.prog X.w) X.A (builtinsFor X.env.globals X.env.builtins) (fun bi s4 =>
        ∃ I' fp wr n0 Pf S0 pz F, Value.ref Ia = .ref I' ∧ (∀ A' : Around, A'.handled = none → Walks X.prog X.w A' I' fp wr n0 Pf S0) ∧ S0 0 s4.heap ∧ (∀ b ∈ fp, b < s4.heap.objs.size) ∧ s4.heap.NoLimit ∧ cStatics ∉ wr ∧
          (∀ href : Heap, (∀ b o, s4.heap.get? b = some o → href.get? b = some o) →
            QuietGenD X.prog X.w (genEnv scope (cloFrom X.env.cells scope.names []) s4.heap.objs.size code bi X.env) x [] elt (List.range s4.heap.objs.size) wr Pf pz F href (X.A.depth + 1) (X.A.units + 8)) ∧
          (∀ a h5 tk gs, gs.bare = true → s4.heap.objs.size < a → h5.objs.size = a + 1 → (∀ b o, s4.heap.get? b = some o → h5.get? b = some o) →
            WalksS X.prog X.w X.A.in4 a (a :: s4.heap.objs.size :: List.range s4.heap.objs.size) (s4.heap.objs.size :: wr) (GenOnlyQ s4.gens.size) (passing pz n0 0).length
              (fun j y => ∃ i, (passing pz n0 0)[j]? = some i ∧ F i y) (GenAt X.prog X.w X.A.in4 a s4.gens.size s4.heap.objs.size (List.range s4.heap.objs.size) wr pz n0 F) →
            GenAt X.prog X.w X.A.in4 a s4.gens.size s4.heap.objs.size (List.range s4.heap.objs.size) wr pz n0 F 0 { s4 with gens := s4.gens.push gs, toks := tk, heap := h5 } →
            Q' (.ref a) { s4 with gens := s4.gens.push gs, toks := tk, heap := h5 })) X.xe { s1 with heap := h3, toks := tk } := by
    intro code h3 tk ps' hx hsz hP3 ht3
    obtain ⟨bm, ob, e1, e2, e3, e4, e5, e6, e7, e8⟩ := TB.bm
    have csP : cStatics ≠ P := fun e => by
      obtain ⟨_, hns, _⟩ := J.nolimit
      obtain ⟨o', es, ep, ho', hd, _⟩ := hns
      rw [e, hPs] at ho'
      cases ho'
      cases hd
    have csl : cStatics < Ia := by
      obtain ⟨_, hns, _⟩ := J.nolimit
      rw [← hIa]; exact hns.lt
    have sz2 : (s1.heap.push o).objs.size = Ia + 1 := by rw [← hIa]; exact Heap.size_push ..
    have i1 : Ia < h3.objs.size := Nat.lt_of_succ_le (by rw [sz2] at hsz; exact hsz)
    have keep3 : ∀ b u, b ≠ P → s1.heap.get? b = some u → h3.get? b = some u := fun b u hb e => hx b u hb (Heap.get?_push_of_some _ e)
    have glob : h3.Ns X.env.globals X.mg := by
      rw [J.ok.glob]
      exact ((J.mod.glob.keeps J.bk).push o).extBut hx TB.gP
    refine wpAny_builtinsFor (m := X.mg) glob e1 e2 (keep3 _ _ e4 (J.bk _ _ e5)) e6 e7 e8 ?_
    have st3 : S0 0 h3 := (WS X.A hr.hd).frame _ _ _ hS0 fun b hb u e => by
      obtain rfl : b = Ia := by simpa using hb
      exact hx _ u (Nat.ne_of_gt Plt) e
    refine ⟨Ia, [Ia], [Ia], tx.cps.size, SignAt tx, S0, (fun _ => true), (fun i y => i < (chs tx).length ∧ y = .bool (tr i)), rfl,
      WS, st3, fun b hb => ?_, lim2.extBut hx csP, fun z => ?_, fun href hhref => ?_, fun g h5 tk5 gs hgb hag hsz5 hk5 W5 hat => ?_⟩
    · obtain rfl : b = Ia := by simpa using hb
      exact i1
    · have z2 : cStatics = Ia := by simpa using z
      exact absurd z2 (Nat.ne_of_lt csl)
    · have atI : ∀ (i : Nat) (v : Value), SignAt tx i v → ∃ y : V, (chs tx)[i]? = some y ∧ RelV y v := fun i v hv => by
        obtain ⟨cc, u, hcc, rfl⟩ := hv
        refine ⟨.str ⟨#[cc]⟩, ?_, ⟨u, rfl⟩⟩
        unfold chs
        rw [List.getElem?_map, Array.getElem?_toList, hcc]
        rfl
      refine ⟨fun A' E' i v s2 m2 hA hD hU hPv hn hm hk => ?_, fun A' E' i v s2 m2 hA hD hU hPv hp hn hm hk => ?_⟩
      · simp only [List.forIn_nil]
        exact wpAny_pure ⟨rfl, keeps_same s2 s2.heap s2.toks fun _ _ e => e⟩
      · obtain ⟨y, hy, ru⟩ := atI i v hPv
        have all2 : ∀ b u, b ≠ Ia → h3.get? b = some u → s2.heap.get? b = some u := fun b u hb e => hk b (List.mem_range.mpr (Heap.lt_size e)) (by simpa using hb) u (hhref b u e)
        have lt1 : ∀ b u, s1.heap.get? b = some u → b ≠ Ia := fun b u e => Nat.ne_of_lt (by rw [← hIa]; exact Heap.lt_size e)
        have all1 : ∀ b u, b ≠ P → s1.heap.get? b = some u → s2.heap.get? b = some u := fun b u hb e => all2 b u (lt1 b u e) (keep3 b u hb e)
        have hok2 : HOk X.prog X.w H1 s2.heap := hok_grow J.hok hP all1 ⟨ps', all2 P _ (Nat.ne_of_lt Plt) hP3, ht3⟩
        have baseP : ∀ b o, X.base.get? b = some o → b ≠ P := fun b o e z => by
          have := (J.bs b o e).2
          rw [z, hP] at this
          cases this
        refine wpAny_mono (hel _ A' E' i y v s2 m2 rfl J.ok.glob J.mod hA hD (Nat.le_trans hU (Nat.le_refl _)) hy ru hn hm hok2 (fun b o e => all1 b o (baseP b o e) (J.bk b o e)) fun y2 j z hf hN hσ => ?_) (fun y3 s3 q => ⟨⟨(List.getElem?_eq_some_iff.mp hy).1, q.1⟩, q.2⟩) fun _ _ e => e
        obtain ⟨mloc, _, look⟩ := J.loc
        have kf := S.free _ (mem_of_look hf) rfl
        obtain ⟨u2, r2, lk⟩ := look j y2 z hN hσ (kf.elim (fun q => .inr (.inl q)) fun q => .inr (.inr q))
        rcases lk with ⟨bad, _⟩ | ⟨_, cl, hcl, isc⟩
        · have bad : X.env.scope.names.lookup y2 = some .local := bad
          rcases kf with q | q
          · have q : X.env.scope.names.lookup y2 = some .cell := q
            rw [q] at bad; cases bad
          · have q : X.env.scope.names.lookup y2 = some .free := q
            rw [q] at bad; cases bad
        · refine ⟨cl, u2, clo_look hf hcl, ?_, r2⟩
          obtain ⟨oc, hoc, hdc⟩ := isc
          refine ⟨oc, all1 cl oc (fun z => ?_) hoc, hdc⟩
          rw [z, hPs] at hoc
          cases hoc
          cases hdc
    · simp only [GxR.passing_true, List.length_range] at W5
      have eN : tx.cps.size = (chs tx).length := by unfold chs; rw [List.length_map, Array.length_toList]
      rw [eN] at W5 hat
      refine hQ tx tr H1 g _ hR ⟨_, _, _, _, _, W5.in4_1, hat, fun j y sj Qj Ej hy hQj => ?_, fun s' hm => ?_⟩
      · obtain ⟨i, hij, hi2, ey⟩ := hy
        subst ey
        obtain ⟨hj, ej⟩ := List.getElem?_eq_some_iff.mp hij
        rw [List.getElem_range] at ej
        subst ej
        exact wpAny_truthy_bool hQj
      · have nwr : ∀ b u, s1.heap.get? b = some u → b ∉ h3.objs.size :: [Ia] := fun b u e hb => by
          have hl := Heap.lt_size e
          have hb2 : b = h3.objs.size ∨ b = Ia := by simpa using hb
          have hl : b < Ia := by rw [← hIa]; exact hl
          rcases hb2 with z | z
          · exact absurd (Nat.lt_trans hl i1) (by rw [z]; exact Nat.lt_irrefl _)
          · exact absurd hl (by rw [z]; exact Nat.lt_irrefl _)
        have G := inv_grow (h' := s'.heap) (g' := s'.gens) (d' := s'.drawn) (t' := s'.toks) J hP (fun b u hb e => hm.heap b u (nwr b u e) (hk5 b u (keep3 b u hb e))) ⟨ps', hm.heap P _ (nwr P _ hPs) (hk5 P _ hP3), ht3⟩ (PyProof.Rows.AllBare.movedS (J.bare.push hgb) hm)
        rwa [GxR.sh_eta s1 s' hm.os] at G
  rw [hIa] at *
  refine ⟨lim2, ?_⟩
  cases hf : codeAmong gpos ps.toList with
  | none =>
    refine wpAny_genexprCodeX hcode (cd.code hP2 ht) (cd.tab hP2) hf fun c' h' tk hx hge hlt hco' _ htab' _ => ?_
    obtain ⟨o1, vs, f1, tf, fl, tg, inF, tx, tt, op, _, _, _, _, _, _, _, _, _, htr, _⟩ := hco'
    exact main _ h' tk _ hx (Nat.le_trans hge (Nat.le_of_lt hlt)) htab'.2 htr
  | some cv => exact wpAny_genexprCode_hit hcode (cd.code hP2 ht) hf (main cv (s1.heap.push o) s1.toks ps (Heap.ExtBut.refl _ _) (Nat.le_refl _) hP2 ht)
end
end Dn
namespace Dn
open PySem PySem.Spec L2 A1 A2 A3
section
variable {X : Cx} {pins : List (Addr × Obj)} {σ : St} {H : Hp} {s : Shared} {P : Addr}
end
section
variable {X : Cx} {pins : List (Addr × Obj)} {σ : St} {H : Hp} {s : Shared} {P c : Addr} {elt iter : Expr} {x : Str} {px p pos gpos rp rpos : PySem.Pos} {scope : Scope} {te : TE} {k : Nat}
end
def fGenR (ag : List Bool → Bool) (fi : FV) (fr : List Nat) (fq : FQ) : FE := fun env => (fi env).bind fun p => match frees p.1 fr, p.2.2 with
  | some vs, .int n => grd (small n) (match boolsQ ((List.range n.toNat).map fun i : Nat => fq (some (.int (i : Int)) :: vs.map some)) with
    | some bs => .ok (p.1, .sh true (.bool (ag bs)))
    | none => .bad)
  | _, _ => .bad
section
variable {X : Cx} {W : WX} {P c : Addr} {elt iter : Expr} {x nm : Str} {px p pos gpos rp rpos : PySem.Pos} {scope : Scope} {k : Nat} {fi : FE} {fq : FQ} {ys : List Str} {fr : List Nat}
end
section
variable {β : Type} {h : HX β} {env : Env} {fi : FV} {fr : List Nat} {fq : FQ} {ag : List Bool → Bool}
def genRK (ag : List Bool → Bool) (fr : List Nat) (fq : FQ) (e : Env) (d : PyData) (k : Env → R → Rs β) : Rs β := match frees e fr, d with
  | some vs, .int n => grd (small n) (match boolsQ ((List.range n.toNat).map fun i : Nat => fq (some (.int (i : Int)) :: vs.map some)) with
    | some bs => k e (.sh true (.bool (ag bs)))
    | none => .bad)
  | _, _ => .bad
@[simp ↓] theorem cE_genR {k : Env → R → Rs β} : cE (fGenR ag fi fr fq) env h k = cV fi env h fun e _ d => genRK ag fr fq e d k := by
  unfold cE cV fGenR
  rw [on_bind]
  refine congrArg _ (funext fun p => ?_)
  obtain ⟨e1, n, d⟩ := p
  unfold genRK
  dsimp only
  cases frees e1 fr with
  | none => rfl
  | some vs =>
    cases d with
    | int i =>
      dsimp only
      rw [on_grd]
      congr 1
      cases boolsQ ((List.range i.toNat).map fun i : Nat => fq (some (.int (i : Int)) :: vs.map some)) <;> rfl
    | _ => rfl
end
end Dn
namespace Dn
open PySem PySem.Spec L2 A1 A2 A3
section
variable {X : QX} {N : List Str} {k : Nat} {F H : Hp} {env : QEnv} {s : Shared}
theorem q_list (C : QC X k) (q : QSt X F H N env s) {a : Addr} {xs : List V} (h : SqL X.K F a xs) : ∃ its : List Value, Vals xs its ∧ s.heap.IsList a its.toArray ∧ xs.length ≤ sizeLine := by
  have kin : X.K.In s.heap := C.mod.kin.keeps q.bk
  rcases (q.sg.seq h) with h | ⟨o, its, n, hk, hc, hd, hs, hz, r⟩
  · obtain ⟨z, its, n, r, e⟩ := h.ok q.hok
    exact ⟨its, r, (show PlainL s.heap a its.toArray from ⟨_, n, e, rfl, rfl, rfl⟩).isList, z⟩
  · refine ⟨its.toList, r, (show PlainL s.heap a its.toList.toArray from ⟨o, n, kin a o hk, hc, hd, by simpa using hs⟩).isList, ?_⟩
    have e := r.length
    simp only [Array.length_toList] at e
    omega
theorem q_tup (C : QC X k) (q : QSt X F H N env s) {a : Addr} {xs : List V} (h : SqT X.K H a xs) : ∃ its : List Value, Vals xs its ∧ s.heap.IsTuple a its.toArray ∧ xs.length ≤ sizeLine := by
  have kin : X.K.In s.heap := C.mod.kin.keeps q.bk
  rcases h with h | ⟨o, its, n, hk, hc, hs, hz, r⟩
  · obtain ⟨z, its, r, p⟩ := h.ok q.hok
    exact ⟨its, r, p, z⟩
  · refine ⟨its.toList, r, ⟨o, kin a o hk, hc, n, by simpa using hs⟩, ?_⟩
    have e := r.length
    simp only [Array.length_toList] at e
    omega
mutual
def okQ : PyData → Bool
  | .none => true
  | .bool _ => true
  | .int _ => true
  | .str _ => true
  | .tuple ds => okQA ds
  | _ => false
def okQA : List PyData → Bool
  | [] => true
  | d :: ds => okQ d && okQA ds
end
mutual
theorem q_reads (C : QC X k) (q : QSt X F H N env s) : ∀ (d : PyData) (v : V) (u : Value), okQ d = true → Is X.K H false F v d → RelV v u → ∃ as, Reads s.heap u d as
  | .none, _, _, _, h, r => by cases h; cases r; exact ⟨_, Reads.none⟩
  | .bool b, _, _, _, h, r => by cases h; cases r; exact ⟨_, Reads.bool b⟩
  | .int i, _, _, _, h, r => by cases h; obtain ⟨t, rfl⟩ := r; exact ⟨_, Reads.int i t⟩
  | .str x, _, _, _, h, r => by cases h; obtain ⟨t, rfl⟩ := r; exact ⟨_, Reads.str x t⟩
  | .list ds, _, _, z, _, _ => by simp only [okQ] at z; cases z
  | .tuple ds, _, _, z, h, r => by
    unfold okQ at z
    cases h with
    | tup hs ha =>
      cases r
      obtain ⟨its, rv, ⟨o, ho, hc, n, hd⟩, _⟩ := q_tup C q (hs.to q.sg).sq
      obtain ⟨as, hr⟩ := q_readsA C q ds _ its z ha rv
      exact ⟨_, Reads.tuple ho hc hd hr⟩
  | .dict _, _, _, z, _, _ => by simp only [okQ] at z; cases z
theorem q_readsA (C : QC X k) (q : QSt X F H N env s) : ∀ (ds : List PyData) (vs : List V) (us : List Value), okQA ds = true → IsA X.K H false F vs ds → Vals vs us → ∃ as, ReadsAll s.heap us ds as
  | [], _, _, _, h, r => by cases h; cases r; exact ⟨_, ReadsAll.nil⟩
  | d :: ds, _, _, z, h, r => by
    unfold okQA at z
    rw [Bool.and_eq_true] at z
    cases h with
    | cons h1 h2 =>
      cases r with
      | cons r1 r2 =>
        obtain ⟨as, q1⟩ := q_reads C q d _ _ z.1 h1 r1
        obtain ⟨bs, q2⟩ := q_readsA C q ds _ _ z.2 h2 r2
        exact ⟨_, ReadsAll.cons q1 q2⟩
end
end
section
variable {X : QX} {N : List Str} {k : Nat} {a b : Expr} {fa fb : FQ} {pos p : PySem.Pos}
end
section
variable {X : Cx}
end
section
variable {X : Cx} {W : WX} {P c : Addr} {elt iter : Expr} {x nm : Str} {px p pos gpos rp rpos : PySem.Pos} {scope : Scope} {k : Nat} {fi : FE} {fq : FQ} {ys : List Str} {fr : List Nat}
end
end Dn
namespace Dn
open PySem PySem.Spec L2 A1 A2 A3
section
variable {X : Cx} {pins : List (Addr × Obj)} {σ : St} {H : Hp} {s : Shared} {P : Addr}
end
def fGenWT (ag : List Bool → Bool) (fi : FV) (fr : List Nat) (fq : FQ) : FE := fun env => (fi env).bind fun p => match p.2.2 with
  | .list ds => (match frees p.1 fr, pairsP ds with
    | some vs, some ps => (match boolsQ (ps.map fun d => fq (some d.1 :: some d.2 :: vs.map some)) with
      | some bs => .ok (p.1, .sh true (.bool (ag bs)))
      | none => .bad)
    | _, _ => .bad)
  | _ => .bad
section
variable {X : Cx} {W : WX} {P c : Addr} {elt iter : Expr} {xa xb nm : Str} {pa pb pt p pos gpos : PySem.Pos} {kt : Nat} {scope : Scope} {k : Nat} {fi : FE} {fq : FQ} {ys : List Str} {fr : List Nat}
end
section
variable {β : Type} {h : HX β} {env : Env} {fi : FV} {fr : List Nat} {fq : FQ} {ag : List Bool → Bool}
def genTK (ag : List Bool → Bool) (fr : List Nat) (fq : FQ) (e : Env) (d : PyData) (k : Env → R → Rs β) : Rs β := match d with
  | .list ds => (match frees e fr, pairsP ds with
    | some vs, some ps => (match boolsQ (ps.map fun d => fq (some d.1 :: some d.2 :: vs.map some)) with
      | some bs => k e (.sh true (.bool (ag bs)))
      | none => .bad)
    | _, _ => .bad)
  | _ => .bad
@[simp ↓] theorem cE_genWT {k : Env → R → Rs β} : cE (fGenWT ag fi fr fq) env h k = cV fi env h fun e _ d => genTK ag fr fq e d k := by
  unfold cE cV fGenWT
  rw [on_bind]
  refine congrArg _ (funext fun p => ?_)
  obtain ⟨e, n, d⟩ := p
  unfold genTK
  dsimp only
  split
  · split
    · split <;> rfl
    · rfl
  · rfl
end
section
variable {X : QX} {N : List Str} {k : Nat} {a b : Expr} {fa fb : FQ} {pos p : PySem.Pos}
end
end Dn
namespace Dn
open PySem PySem.Spec L2 A1 A2 A3
def bGcd : GN := fun ps => match ps with
  | [(_, .int i), (_, .int j)] => sc (.int (Nat.gcd i.natAbs j.natAbs : Nat))
  | _ => .bad
def bLcm : GN := fun ps => match ps with
  | [(_, .int i), (_, .int j)] => grd (decide (i.natAbs < 2 ^ 60) && (decide (j.natAbs < 2 ^ 60) && decide (Nat.lcm i.natAbs j.natAbs < 2 ^ 60))) (sc (.int (Nat.lcm i.natAbs j.natAbs : Nat)))
  | _ => .bad
section
variable {X : Cx}
variable {W : WX} {x : Str} {p pos : PySem.Pos} {e : Expr} {es : List Expr} {fa : FA} {id : String} {g : GN}
end
section
variable {β : Type} {h : HX β} {n m : Bool} {i j : Int} {k : R → Rs β}
@[simp ↓] theorem cR_lcm (z : i.natAbs < 2 ^ 60 ∧ j.natAbs < 2 ^ 60 ∧ Nat.lcm i.natAbs j.natAbs < 2 ^ 60) : cR (bLcm [(n, .int i), (m, .int j)]) h k = k (.sh true (.int (Nat.lcm i.natAbs j.natAbs : Nat))) := by
  unfold cR bLcm
  show on (grd (decide (i.natAbs < 2 ^ 60) && (decide (j.natAbs < 2 ^ 60) && decide (Nat.lcm i.natAbs j.natAbs < 2 ^ 60))) (sc (.int (Nat.lcm i.natAbs j.natAbs : Nat)))) h k = _
  rw [decide_eq_true z.1, decide_eq_true z.2.1, decide_eq_true z.2.2]; rfl
end
end Dn
namespace Dn
open PySem PySem.Spec L2 A1 A2 A3
section
variable {X : QX} {N : List Str} {k : Nat} {a b c : Expr} {fa fb fc : FQ} {ta tb : QEnv → Option Bool} {pos p p1 p2 : PySem.Pos}
end
section
variable {X : Cx} {pins : List (Addr × Obj)} {σ : St} {H : Hp} {s : Shared} {P : Addr}
end
section
variable {X : Cx} {W : WX} {P c : Addr} {elt iter : Expr} {xa xb nm : Str} {pa pb pt p pos gpos : PySem.Pos} {kt : Nat} {scope : Scope} {k : Nat} {fi : FE} {fq : FQ} {ys : List Str} {fr : List Nat}
end
end Dn
namespace Dn
open PySem PySem.Spec L2 A1 A2 A3
section
variable {X : Cx} {pins : List (Addr × Obj)} {σ : St} {H : Hp} {s : Shared} {P c : Addr} {elt iter : Expr} {x : Str} {px p pos gpos : PySem.Pos} {scope : Scope} {te : TE} {k : Nat}
def tGenS (X : Cx) (P : Addr) (scope : Scope) (x : Str) (elt : Expr) (ag : (Nat → Bool) → Nat → Bool) (te : TE) : TE := fun σ H Q => te σ H fun v H1 => ∃ (tx : Str) (tr : Nat → Bool), v = .str tx ∧ H1 P = some (tabE P) ∧ EltW X σ H1 scope x elt (chs tx) tr ∧ Q (.bl (ag tr (chs tx).length)) H1
theorem pe_allSt (hr : Room k X.A) (hg : Gl X "all") (hm : X.mg "all" = none) (TB : GxR.TabB X.base X.mg c P) (hcode : X.env.code = .ref c) (S : GQ X.env.scope scope x) (hi : PE X iter te) (hs : ∀ v, genFold iter X.env v = pure v)
    (he : starEach [.GeneratorExp elt [⟨.Name x px, iter, [], 0⟩] scope gpos] X.env = (false, eval (.GeneratorExp elt [⟨.Name x px, iter, [], 0⟩] scope gpos) X.env) :: starEach [] X.env := by rfl) :
    PE X (.Call (.Name "all" p) [.GeneratorExp elt [⟨.Name x px, iter, [], 0⟩] scope gpos] [] pos) (tGenS X P scope x elt allR te) := by
  refine ⟨fun pins s σ H Q I h => wpAny_Call_Name_kw (ld_blt I hg hm PyProof.Rows.boot_all (PyProof.Rows.callWith_builtin1 ?_ he (by rfl)))⟩
  rw [he]
  show wpAny _ _ (spliced ((false, eval (.GeneratorExp elt [⟨.Name x px, iter, [], 0⟩] scope gpos) X.env) :: backTo pos (starEach [] X.env))) _ _ s
  refine Calls.spliced_cons (gen_s (R := fun tx tr H1 => Q (.bl (allR tr (chs tx).length)) H1) hr TB hcode S hi hs I h fun tx tr H1 g s5 hR hG => Calls.spliced_nil ?_)
  obtain ⟨fp, wr, G, F, St, wk, st0, htr, hI⟩ := hG
  exact call_all_walkS (wk.self 0 _ _ _ st0 ⟨g, fp, wr, G, _, F, St, _, rfl, wk, st0, htr, fun s' mv => ⟨.bl (allR tr (chs tx).length), H1, hI s' mv, rfl, hR⟩⟩)
end
def fGenS (ag : List Bool → Bool) (fi : FV) (fr : List Nat) (fq : FQ) : FE := fun env => (fi env).bind fun p => match frees p.1 fr, p.2.2 with
  | some vs, .str tx => (match boolsQ (tx.cps.toList.map fun c => fq (some (.str ⟨#[c]⟩) :: vs.map some)) with
    | some bs => .ok (p.1, .sh true (.bool (ag bs)))
    | none => .bad)
  | _, _ => .bad
section
variable {X : Cx} {W : WX} {P c : Addr} {elt iter : Expr} {x nm : Str} {px p pos gpos : PySem.Pos} {scope : Scope} {k : Nat} {fi : FE} {fq : FQ} {ys : List Str} {fr : List Nat}
theorem genS_le {ag : List Bool → Bool} {agR : (Nat → Bool) → Nat → Bool} (hag : ∀ bs : List Bool, agR (fun i => bs.getD i false) bs.length = ag bs) (hr : Room (k + 1) X.A) (hnm : nm ∈ tabNames) (ht : PySem.W.tabIn X.K nm = some (c, P)) (hk : scope.kind = .function) (hl : scope.names.lookup x = some .local)
    (hy : ∀ (i : Nat) (y : Str), ys[i]? = some y → scope.names.lookup y = some .free ∧ ∃ j, fr[i]? = some j ∧ X.N[j]? = some y) (hyl : ys.length = fr.length)
    (he : ∀ (cenv : PySem.Env) (A : Around), cenv.scope = scope → QC ⟨X.prog, X.w, X.K, X.mg, X.base, cenv, A⟩ k → QE ⟨X.prog, X.w, X.K, X.mg, X.base, cenv, A⟩ (x :: ys) elt fq) {σ : St} {H : Hp} {Q : VK} (h : tE X.K X.mg W (fGenS ag (st fi) fr fq) σ H Q) :
    tGenS X P scope x elt agR (tD X.K X.mg W (st fi)) σ H Q := by
  obtain ⟨H0, F0, F, env, r, q⟩ := h
  refine ⟨H0, F0, F, env, r, ?_⟩
  unfold fGenS at q
  refine Rs.post_mono (Rs.post_bind.mp q) (fun p hp v F1 H1 r1 hv e1 e2 => ?_) fun _ _ z => z
  obtain ⟨env1, n, d⟩ := p
  dsimp only at hp hv r1
  split at hp
  · rename_i xo dd vs tx g1
    split at hp
    · rename_i bs g3
      obtain ⟨b1, b2⟩ := boolsQ_at g3
      obtain ⟨f1, f2⟩ := frees_at g1
      obtain rfl : v = .str tx := by cases hv; rfl
      refine ⟨tx, fun i => bs.getD i false, rfl, r1.fz _ _ (r1.tabs nm hnm c P ht), ?_, ?_⟩
      · intro cenv A' E' i v u s2 m2 hsc hglo hmod hA hD hU hxi ru hn hm ok hb cap
        obtain ⟨cc, hcc, ev⟩ : ∃ cc, tx.cps.toList[i]? = some cc ∧ v = .str ⟨#[cc]⟩ := by
          unfold chs at hxi
          rw [List.getElem?_map] at hxi
          cases z : tx.cps.toList[i]? with
          | none => rw [z] at hxi; cases hxi
          | some cc => rw [z] at hxi; cases hxi; exact ⟨cc, rfl, rfl⟩
        subst ev
        have idi : Is X.K H0 false F1 (.str ⟨#[cc]⟩) (.str ⟨#[cc]⟩) := .str _
        have C : QC ⟨X.prog, X.w, X.K, X.mg, X.base, cenv, A'⟩ k := ⟨hmod, by show cenv.scope.kind = _; rw [hsc]; exact hk, hglo, Room.gen hr hA hD hU⟩
        have hfq : fq (some (PyData.str ⟨#[cc]⟩) :: vs.map some) = some (.bool (bs.getD i false)) := b2 i _ (by rw [List.getElem?_map, hcc]; rfl)
        have qs : QSt ⟨X.prog, X.w, X.K, X.mg, X.base, cenv, A'⟩ F1 H1 (x :: ys) (some (PyData.str ⟨#[cc]⟩) :: vs.map some) s2 := by
          refine ⟨ok, hb, r1.fz, fun j d2 hj y hyj => ?_⟩
          cases j with
          | zero =>
            simp at hj hyj
            subst hj hyj
            exact ⟨u, .str ⟨#[cc]⟩, ru, Is.weak idi (Same.refl _), .inl ⟨by show cenv.scope.names.lookup x = _; rw [hsc]; exact hl, m2, hn, hm⟩⟩
          | succ j =>
            have hj : (vs.map some)[j]? = some (some d2) := by simpa using hj
            have hyj : ys[j]? = some y := by simpa using hyj
            have hvj : vs[j]? = some d2 := by
              rw [List.getElem?_map] at hj
              cases z : vs[j]? with
              | none => rw [z] at hj; cases hj
              | some w => rw [z] at hj; exact congrArg some (Option.some.inj (Option.some.inj hj))
            obtain ⟨yf, jj, hjj, hNj⟩ := hy j y hyj
            obtain ⟨j2, n2, hj2, hsl⟩ := f2 j d2 hvj
            rw [hjj] at hj2; cases hj2
            obtain ⟨fp, rf⟩ := _root_.id r1
            obtain ⟨z, hz1, hz2⟩ := rf.sl jj _ hsl
            obtain ⟨cc, w, c1, c2, c3⟩ := cap y jj z yf hNj hz1
            exact ⟨w, z, c3, Is.weak (show Is X.K H0 n2 F1 z d2 from hz2) (Same.refl _), .inr ⟨by show cenv.scope.names.lookup y = _; rw [hsc]; exact yf, cc, c1, c2⟩⟩
        refine wpAny_mono (he cenv A' hsc C F1 H1 _ s2 _ E' qs hfq) (fun y2 s3 ⟨v2, r2, iv2, k2⟩ => ⟨?_, k2⟩) fun _ _ z => z
        rw [is_bl0 iv2] at r2
        exact r2
      · have hlen : (chs tx).length = bs.length := by unfold chs; rw [b1, List.length_map, List.length_map]
        rw [hlen, hag]
        exact hp _ F1 H1 ⟨r1, .bl _⟩ e1 e2
    · exact hp.elim
  · exact hp.elim
theorem d_allSt (hr : Room (k + 1) X.A) (hg : Gl X "all") (hm : X.mg "all" = none) (TB : TabsB X.K X.base X.mg) (hnm : nm ∈ tabNames) (ht : PySem.W.tabIn X.K nm = some (c, P)) (hcode : X.env.code = .ref c) (S : GQ X.env.scope scope x) (hi : DE X W iter fi) (hf : FyOk X.N scope ys fr)
    (hq : ∀ (cenv : PySem.Env) (A : Around), cenv.scope = scope → QC ⟨X.prog, X.w, X.K, X.mg, X.base, cenv, A⟩ k → QE ⟨X.prog, X.w, X.K, X.mg, X.base, cenv, A⟩ (x :: ys) elt fq)
    (hs : ∀ v, genFold iter X.env v = pure v := by intro _; rfl)
    (he : starEach [.GeneratorExp elt [⟨.Name x px, iter, [], 0⟩] scope gpos] X.env = (false, eval (.GeneratorExp elt [⟨.Name x px, iter, [], 0⟩] scope gpos) X.env) :: starEach [] X.env := by rfl) :
    DE X W (.Call (.Name "all" p) [.GeneratorExp elt [⟨.Name x px, iter, [], 0⟩] scope gpos] [] pos) (fGenS (fun bs => bs.all id) (st fi) fr fq) :=
  pe_le (pe_allSt hr hg hm (TB.gen nm hnm c P ht) hcode S hi.d hs he) fun σ H Q q => genS_le gen_all hr hnm ht S.kind S.loc hf.1 hf.2 hq q
end
section
variable {X : QX} {N : List Str} {k : Nat} {a b : Expr} {fa fb : FQ} {pos p : PySem.Pos}
def qStr (z : Str) : FQ := fun _ => some (.str z)
theorem q_globS {x z : Str} (C : QC X k) (hg : X.env.kindOf x = some .globalImplicit) (hm : ∃ t, X.mg x = some (.str z t)) (hdb : (x == ("__debug__" : Str)) = false := by decide) : QE X N (.Name x pos) (qStr z) := fun F H env s d E q h => by
  cases h
  obtain ⟨t, hm⟩ := hm
  exact Calls.Name_function_global C.kind hg (Calls.loadGlobal_global (by rw [C.glob]; exact C.mod.glob.keeps q.bk) hm ⟨.str z, ⟨t, rfl⟩, .str z, keeps_refl s⟩) hdb
def qInS (fa fb : FQ) : FQ := fun env => match fa env, fb env with
  | some (.str i), some (.str j) => (match i.cps.toList with
    | [c] => some (.bool (decide (c ∈ j.cps.toList)))
    | _ => none)
  | _, _ => none
theorem qInS_some {env : QEnv} {d : PyData} (h : qInS fa fb env = some d) : ∃ (c : Nat) (j : Str), fa env = some (.str ⟨#[c]⟩) ∧ fb env = some (.str j) ∧ d = .bool (decide (c ∈ j.cps.toList)) := by
  unfold qInS at h
  split at h
  · rename_i i j h1 h2
    split at h
    · rename_i c hc
      cases h
      obtain ⟨⟨l⟩⟩ := i
      have hc : l = [c] := hc
      subst hc
      exact ⟨c, j, h1, h2, rfl⟩
    · cases h
  · cases h
theorem is_str0 {K : PySem.W.Frag} {H F : Hp} {v : V} {x : Str} (h : Is K H false F v (.str x)) : v = .str x := by cases h; rfl
theorem q_inS (ha : QE X N a fa) (hb : QE X N b fb) (hm : behindInMarks .In b = false := by with_unfolding_all rfl) : QE X N (.Compare a [.In] [b] pos) (qInS fa fb) := fun F H env s d E q h => by
  obtain ⟨c, j, h1, h2, rfl⟩ := qInS_some h
  refine wpAny_Compare1 (wpAny_mono (ha F H env s _ E q h1) (fun y s1 ⟨v, r, iv, k1⟩ => ?_) fun _ _ z => z) hm
  rw [is_str0 iv] at r
  obtain ⟨t, rfl⟩ := r
  refine wpAny_mono (hb F H env s1 _ E (q.keep k1) h2) (fun y2 s2 ⟨v2, r2, iv2, k2⟩ => ?_) fun _ _ z => z
  rw [is_str0 iv2] at r2
  obtain ⟨t2, rfl⟩ := r2
  refine PyProof.Rows.in_str ⟨.bl _, ?_, .bl _, keeps_trans k1 k2⟩
  exact congrArg Value.bool (PySem.StrLaws.found_one j c)
end
section
variable {β : Type} {h : HX β} {env : Env} {fi : FV} {fr : List Nat} {fq : FQ} {ag : List Bool → Bool}
def genSK (ag : List Bool → Bool) (fr : List Nat) (fq : FQ) (e : Env) (d : PyData) (k : Env → R → Rs β) : Rs β := match frees e fr, d with
  | some vs, .str tx => (match boolsQ (tx.cps.toList.map fun c => fq (some (.str ⟨#[c]⟩) :: vs.map some)) with
    | some bs => k e (.sh true (.bool (ag bs)))
    | none => .bad)
  | _, _ => .bad
@[simp ↓] theorem cE_genS {k : Env → R → Rs β} : cE (fGenS ag fi fr fq) env h k = cV fi env h fun e _ d => genSK ag fr fq e d k := by
  unfold cE cV fGenS
  rw [on_bind]
  refine congrArg _ (funext fun p => ?_)
  obtain ⟨e, n, d⟩ := p
  unfold genSK
  dsimp only
  split
  · split <;> simp_all [on]
  · simp_all [on]
theorem genSK_s {tx : Str} {g : Nat → Bool} {vs : List PyData} {k : Env → R → Rs β} (h1 : frees env fr = some vs) (h2 : ∀ c ∈ tx.cps.toList, fq (some (.str ⟨#[c]⟩) :: vs.map some) = some (.bool (g c))) : genSK ag fr fq env (.str tx) k = k env (.sh true (.bool (ag (tx.cps.toList.map g)))) := by
  unfold genSK
  rw [h1]
  dsimp only
  rw [boolsQ_map h2]
end
end Dn
namespace Dn
open PySem PySem.Spec L2 A1 A2 A3
theorem callWith_typeKw {M : Model} {A : Around} {E : Value → Shared → Prop} {s : Shared} {pos : PySem.Pos} {T : String} {args : List (Bool × Sem Value)} {kws : List (Option Str × Sem Value)} {Q : Value → Shared → Prop} (h1 : args.any (·.1) = false) (h2 : kws.any (·.1.isNone) = false)
    (h : wpAny M A (evalArgs (.type T) true args kws) (fun a s1 => wpAny M A (call (.type T) ([] ++ a.pos) a.kw) Q E s1) E s) : wpAny M A (callWith pos (.type T) [] args kws) Q E s := by
  unfold callWith
  refine wpAny_bind (wpAny_holding (wpAny_mono h (fun a s1 q => wpAny_bind (wpAny_standAt ?_)) fun _ _ z => z))
  simp only [h1, h2, Bool.or_false]
  exact wpAny_bind (wpAny_pure (wpAny_bind (wpAny_mono q (fun r s2 hr => wpAny_bind (wpAny_holding (wpAny_point (wpAny_pure hr)))) fun _ _ z => z)))
theorem draws_from {prog : Program} {w : World} {A : Around} (hh : A.handled = none) (c : Nat) (it l : Addr) (hne : l ≠ it) (items : Array Value) :
    Draws prog w A it [it, l] (items.size + c) (fun j v => ∃ i, j = i + c ∧ items[i]? = some v) (fun j h => ∃ i, j = i + c ∧ h.IsListIter it l i ∧ h.IsList l items) where
  live := fun j h ⟨i, _, st, _⟩ => let ⟨o, e, _⟩ := st; ⟨o, e⟩
  frame := fun j h h' ⟨i, e, st, sl⟩ k => ⟨i, e, st.at fun o q => k it (by simp) o q, sl.at fun o q => k l (by simp) o q⟩
  item := fun j s Q E hj ⟨i, e, st, sl⟩ hQ => by
    have hi : i < items.size := by omega
    exact wpAny_nextOf_list_item st sl (x := items[i]) (by simp [hi]) fun h' st' sb => hQ _ h' s.toks ⟨i, e, by simp [hi]⟩ ⟨i + 1, by omega, st', sl.extBut sb.extBut hne⟩ sb
  done := fun s Q E ⟨i, e, st, sl⟩ hE => by
    have hi : i = items.size := by omega
    subst hi
    exact wpAny_nextOf_list_end hh st sl (by simp) hE
def IteC (K : PySem.W.Frag) (c : Nat) (a : Addr) : It where
  go := fun i H => ∃ (xs : List V) (x : V), SqL K H a xs ∧ xs[i]? = some x
  yld := fun i H v H' => ∃ (T : Addr) (x : V) (ob : Obj), v = .ref T ∧ H T = none ∧ ob.dict = none ∧ H' = upd H T (tupZ ob [.int (i + c : Nat), x]) ∧ ∀ xs, SqL K H a xs → xs[i]? = some x
  stop := fun i H => ∃ xs : List V, SqL K H a xs ∧ xs.length ≤ i
def enumAtC (c : Nat) (a e it : Addr) (i : Nat) (h : Heap) : Prop := (∃ old, IsEnum h e it ((i + c : Nat) : Int) old) ∧ h.IsListIter it a i ∧ e ≠ it
theorem turnEC {P : Program} {w : World} {K : PySem.W.Frag} {elts : List Expr} {kk : Nat} {tpos : PySem.Pos} (c : Nat) (a e it : Addr) (hae : a ≠ e) (hai : a ≠ it) : Turn P w K (.Tuple elts kk tpos) (IteC K c a) [e, it] e (enumAtC c a e it) where
  mem := by simp
  obj := fun i h tn b hb => by
    obtain ⟨⟨old, he⟩, ⟨o, ho, _, hd⟩, _⟩ := tn
    exact two_of (M := fun b => ∃ o, h.get? b = some o ∧ ∀ v, o.data ≠ .cell v) hb ⟨_, he, fun v z => nomatch z⟩ ⟨o, ho, fun v z => by rw [hd] at z; cases z⟩
  keep := fun i h h' tn k => by
    obtain ⟨⟨old, he⟩, hit, hne⟩ := tn
    exact ⟨⟨old, k e (by simp) _ he⟩, hit.at fun o q => k it (by simp) o q, hne⟩
  item := by
    intro X hP hw hK hc i pins s σ H E I hf tn hg
    subst hP hw hK
    obtain ⟨⟨old, he⟩, hit, hne⟩ := tn
    obtain ⟨xs, x, hq, hx⟩ := hg
    obtain ⟨its, rv, pl, _⟩ := I.list hq
    obtain ⟨u, hu, ru⟩ := rv.get hx
    have hi : i < its.toArray.size := by
      rw [List.size_toArray]
      exact (List.getElem?_eq_some_iff.mp hu).1
    have le1 : e < s.heap.objs.size := Heap.lt_size he
    have le2 : it < s.heap.objs.size := let ⟨_, q, _⟩ := hit; Heap.lt_size q
    have D := draws_from (prog := X.prog) (w := X.w) (A := X.A.in1) (I.ok.hd hc) c it a hai its.toArray
    refine wpAny_pyNext_enum_itemD D he ⟨i, rfl, hit, pl.isList⟩ (by omega) hne (by simp; exact ⟨hne, Ne.symm hae⟩) fun y h1 tk hy own st1 hT hsz hk => ?_
    obtain ⟨i2, ei, hy⟩ := hy
    have ei : i2 = i := by omega
    subst ei
    have hy2 : its[i2]? = some y := by simpa using hy
    rw [hu] at hy2
    cases hy2
    obtain ⟨i3, ei3, hit1, _⟩ := st1
    have ei3 : i3 = i2 + 1 := by omega
    subst ei3
    refine ⟨_, rfl, wpAny_letOwnedTupleGo_enum (s := { s with heap := h1, toks := tk + 1 }) own fun h2 he2 sb => ?_⟩
    have at2 : h2.get? s.heap.objs.size = some { cls := .type "tuple", data := .seq #[.int ((i2 + c : Nat) : Int) tk, u] } := (sb.2 _ (Nat.ne_of_gt le1)).trans hT
    have new : ObjOk X.prog X.w (upd H s.heap.objs.size (tupZ { cls := .type "tuple", data := .seq #[.int ((i2 + c : Nat) : Int) tk, u] } [.int (i2 + c : Nat), x])) h2 s.heap.objs.size (tupZ { cls := .type "tuple", data := .seq #[.int ((i2 + c : Nat) : Int) tk, u] } [.int (i2 + c : Nat), x]) :=
      ⟨at2, by show 2 ≤ sizeLine; decide, [.int ((i2 + c : Nat) : Int) tk, u], .cons ⟨_, rfl⟩ (.cons ru .nil), ⟨_, at2, rfl, _, rfl⟩⟩
    have J := I.turnedNew (ch := [e, it]) (t' := tk + 1) (h' := h2) (fun b ob hb q => (sb.2 b (fun z => hb (by simp [z]))).trans (hk b ob (fun z => hb (by simp [z])) (fun z => hb (by simp [z])) q)) hf (Nat.le_refl _) new
    refine ⟨.ref s.heap.objs.size, _, J, rfl, ⟨_, x, _, rfl, I.hok.fresh (Nat.le_refl _), rfl, rfl, fun ys hy => by rw [I.list_inj hy hq]; exact hx⟩, ⟨⟨u, by rw [show ((i2 + 1 + c : Nat) : Int) = ((i2 + c : Nat) : Int) + 1 by omega]; exact he2⟩, hit1.at fun o q => (sb.2 it (Ne.symm hne)).trans q, hne⟩, fun b hb => ?_⟩
    rw [upd_ne (Nat.ne_of_lt (two_of (M := fun b => b < s.heap.objs.size) hb le1 le2))]
    exact (hf b hb).1
  done := by
    intro X hP hw hK hc i pins s σ H E I hf tn hg
    subst hP hw hK
    obtain ⟨⟨old, he⟩, hit, hne⟩ := tn
    obtain ⟨xs, hq, hx⟩ := hg
    obtain ⟨its, rv, pl, _⟩ := I.list hq
    obtain ⟨f0, f1, f2, f3, f4, f5⟩ := hf it (by simp)
    have hl := rv.length
    have D := draws_from (prog := X.prog) (w := X.w) (A := X.A.in1) (I.ok.hd hc) c it a hai its.toArray
    have T : s.TypeIs (.ref e) "enumerate" := ⟨_, he, rfl⟩
    unfold pyNext
    refine wpAny_bind (wpAny_attempt (wpAny_callSpecial?_slot (name := Str.ofString "__next__") T F.slot_enumerate_next (wpAny_call_entry F.slot_enumerate_next T F.entry_enumerate_next ?_ (F.args_enumerate_next_1 _))))
    show wpAny _ _ (field (.ref e) 2 >>= _) _ _ _
    refine wpAny_bind (wpAny_field he rfl (x := .ref it) rfl ?_)
    refine wpAny_bind (wpAny_nextOf_list_end (I.ok.hd hc) hit pl.isList (by simp; omega) fun h' x eb ⟨o, ho, hcl⟩ => ?_)
    refine wpAny_bind (wpAny_isInstance (T := "StopIteration") (b := true) ⟨o, ho, hcl⟩ isSubtype_stop ?_)
    exact wpAny_pure ⟨rfl, I.turned (t' := s.toks) (fun b o hb q => eb b o hb q) f0 f1 f3 f4 f5⟩
  self := fun A i s Q E tn h => let ⟨⟨_, he⟩, _⟩ := tn; wpAny_pyIter_enum he h
def iEnumC (K : PySem.W.Frag) (c : Nat) (ta : TA) : TI := fun σ H R => ta σ H fun vs H1 => ∃ a xs, vs = [.ref a] ∧ SqL K H1 a xs ∧ R (IteC K c a) H1
theorem pi_enumC {X : Cx} {e : Expr} {ta : TA} {p pos tpos kpos cp : PySem.Pos} {elts : List Expr} {kk kd : Nat} {z : Int} (c : Nat) (hz : z = (c : Int)) (hc : c < 1000) (hg : Gl X "enumerate") (hm : X.mg "enumerate" = none) (ha : PA X [e] ta)
    (he : starEach [e] X.env = (false, eval e X.env) :: starEach [] X.env := by rfl) (hpl : (backTo pos (starEach [e] X.env)).any (·.1) = false := by rfl) :
    PI X (.Tuple elts kk tpos) (.Call (.Name "enumerate" p) [e] [⟨some "start", .Constant (.int z) kd cp, kpos⟩] pos) (iEnumC X.K c ta) := ⟨fun pins s σ H R I h => by
  refine wpAny_Call_Name_kw (ld_blt I hg hm PyProof.Rows.boot_enumerate (callWith_typeKw hpl rfl ?_))
  refine PyProof.Rows.evalArgs_kw2 (kws := [⟨some "start", .Constant (.int z) kd cp, kpos⟩]) rfl (thn (ha.run pos pins s σ H _ I h) fun us s1 ⟨vs, H1, J, rv, a, xs, ev, hq, q⟩ => ?_) he
  subst ev
  obtain ⟨u, rfl, ru⟩ := vals1 rv
  cases ru
  obtain ⟨its, _, pl, _⟩ := J.list hq
  refine PyProof.Rows.kwAll_cons (wpAny_Constant_int (PyProof.Rows.kwAll_nil ?_))
  subst hz
  show wpAny _ _ (call (.type "enumerate") [.ref a] [(Str.ofString "start", .int (c : Int) s1.toks)]) _ _ _
  have J1 : L2.Inv X pins σ H1 { s1 with toks := s1.toks + 1 } := J.tok _
  have al : a < s1.heap.objs.size := by
    obtain ⟨o, e, _⟩ := pl.isList
    exact Heap.lt_size e
  refine PySem.enum_begins_start (s := { s1 with toks := s1.toks + 1 }) (begins_list a its.toArray) pl.isList (by omega) (by omega) fun h1 he1 hit hsz hk => wpAny_pyIter_enum he1 ?_
  have J2 : L2.Inv X pins σ H1 { s1 with heap := h1, toks := s1.toks + 1 } := J1.kept (t' := s1.toks + 1) hk
  refine ⟨s1.heap.objs.size + 1, [s1.heap.objs.size + 1, s1.heap.objs.size], _, _, H1, rfl, J2, turnEC c a (s1.heap.objs.size + 1) s1.heap.objs.size (Nat.ne_of_lt (Nat.lt_succ_of_lt al)) (Nat.ne_of_lt al), ⟨⟨.none, by rw [Nat.zero_add]; exact he1⟩, ⟨_, hit, rfl, rfl⟩, Nat.succ_ne_self _⟩, fun b hb => ?_, q⟩
  have hle := two_of (M := fun b => s1.heap.objs.size ≤ b) hb (Nat.le_succ _) (Nat.le_refl _)
  exact J.fpOk hle (J.hok.fresh hle)⟩
def fEnumC (c : Nat) (f : FV) : FA := fun env => (f env).bind fun p => match p.2.2 with
  | .list ds => .ok (p.1, (List.range' c ds.length).zipWith (fun i d => (p.2.1, .tuple [.int (i : Nat), d])) ds)
  | _ => .bad
theorem good_enumC {K : PySem.W.Frag} {H0 F : Hp} {a : Addr} {xs : List V} {ds : List PyData} {n : Bool} (c : Nat) (h : SqL K F a xs) (hi : IsA K H0 n F xs ds) : Good K H0 F (IteC K c a) ((List.range' c ds.length).zipWith (fun i d => (n, PyData.tuple [.int (i : Nat), d])) ds) := fun i F' H' e1 e2 => by
  have hs : SqL K H' a xs := (Sg.pre e1 e2).seq h
  have hget := zip_get (fun (i : Nat) (d : PyData) => (n, PyData.tuple [.int (i : Nat), d])) ds i c
  refine ⟨fun p hp => ?_, fun hl => ⟨xs, hs, by rw [hi.length]; simpa using hl⟩⟩
  rw [hget] at hp
  cases q : ds[i]? with
  | none => rw [q] at hp; cases hp
  | some d =>
    rw [q] at hp; cases hp
    obtain ⟨v, hv, hd⟩ := hi.get q
    refine ⟨⟨xs, v, hs, hv⟩, fun x H3 hy => ?_⟩
    obtain ⟨T, y, ob, rfl, hT, hob, rfl, hx⟩ := hy
    have := hx xs hs
    rw [hv] at this; cases this
    refine ⟨upd F' T (tupZ ob [.int (i + c : Nat), v]), Ext.alloc e2 hT, .tup (.new hob) (.cons ?_ (.cons (hd.to (e1.trans (same_new (same_none e2 hT)))) .nil))⟩
    rw [Nat.add_comm]
    exact .int _
section
variable {X : Cx} {W : WX} {e : Expr} {f : FE}
theorem i_enumC {tpos p pos kpos cp : PySem.Pos} {elts : List Expr} {kk kd : Nat} {z : Int} (c : Nat) (hz : z = (c : Int)) (hc : c < 1000) (hg : Gl X "enumerate") (hm : X.mg "enumerate" = none) (h : DE X W e f) (he : starEach [e] X.env = (false, eval e X.env) :: starEach [] X.env := by rfl) (hpl : (backTo pos (starEach [e] X.env)).any (·.1) = false := by rfl) :
    DI X W (.Tuple elts kk tpos) (.Call (.Name "enumerate" p) [e] [⟨some "start", .Constant (.int z) kd cp, kpos⟩] pos) (fEnumC c (st f)) := pi_le (pi_enumC c hz hc hg hm (dad_cons h dad_nil he) he hpl) fun σ H Q ⟨H0, F0, F, env, r, q⟩ => by
  refine ⟨H0, F0, F, env, r, ?_⟩
  unfold fEnumC at q
  unfold fCons
  refine Rs.post_bind.mpr (Rs.post_mono (Rs.post_bind.mp q) (fun p hp => ?_) fun _ _ x => x)
  obtain ⟨e', n, d⟩ := p
  dsimp only at hp
  split at hp
  · rename_i ds
    intro vs F' H' r' hv e1 e2
    cases hv with
    | cons h1 h2 =>
      cases h2
      have h1 : Is X.K H0 n F' _ (.list ds) := h1
      cases h1 with
      | lst hs _ ha => exact ⟨_, _, rfl, (r'.fz).seq hs, hp _ F' H' r' (good_enumC c hs ha) e1 e2⟩
  · exact hp.elim
end
section
variable {β : Type} {e env : Env} {h : HX β} {v : FV} {n : Bool} {c : Nat}
def eucK (c : Nat) (e : Env) (n : Bool) (d : PyData) (k : Env → List Dv → Rs β) : Rs β := match d with
  | .list ds => k e ((List.range' c ds.length).zipWith (fun i d => (n, .tuple [.int (i : Nat), d])) ds)
  | _ => .bad
@[simp ↓] theorem cA_enumC {k : Env → List Dv → Rs β} : cA (fEnumC c v) env h k = cV v env h fun e n d => eucK c e n d k := by
  unfold cA cV fEnumC
  rw [on_bind]
  refine congrArg _ (funext fun p => ?_)
  unfold eucK
  obtain ⟨e, n, d⟩ := p
  cases d <;> rfl
@[simp ↓] theorem eucK_m {α : Type} {g : α → PyData} {xs : List α} {k : Env → List Dv → Rs β} : eucK c e n (.list (xs.map g)) k = k e (wk n ((xs.zipIdx c).map (cEn g))) := by
  show k e _ = _
  rw [List.length_map, enum_wk]
end
end Dn
namespace Dn
open PySem PySem.Spec L2 A1 A2 A3
theorem isA_strs {K : PySem.W.Frag} {H0 F : Hp} {n : Bool} : ∀ ys : List Str, IsA K H0 n F (ys.map V.str) (ys.map PyData.str)
  | [] => .nil
  | y :: ys => .cons (.str y) (isA_strs ys)
def fSplit (fo f : FV) : FE := fun env => (fo env).bind fun q => match q.2.2 with
  | .str a => (f q.1).bind fun r => match r.2.2 with
    | .str b => grd (!(b.length == 0) && decide (a.length ≤ 900000)) (.ok (r.1, .nw true ((Txt.split a b).map PyData.str)))
    | _ => .bad
  | _ => .bad
def fEnds (fo f : FV) : FE := fun env => (fo env).bind fun q => match q.2.2 with
  | .str a => (f q.1).bind fun r => match r.2.2 with
    | .str b => .ok (r.1, .sh true (.bool (Txt.endswith a b)))
    | _ => .bad
  | _ => .bad
section
variable {X : Cx} {W : WX} {e o : Expr} {f fo : FE} {pos apos : PySem.Pos}
theorem d_split (ho : DE X W o fo) (h : DE X W e f) (h1 : starEach [e] X.env = [(false, eval e X.env)] := by rfl) (h2 : attributeBase o "split" X.env (eval o X.env) = eval o X.env := by rfl) (h3 : (apos.endLine == pos.line) = true := by rfl) :
    DE X W (.Call (.Attribute o "split" apos) [e] [] pos) (fSplit (rd fo) (rd f)) := pe_le (pe_split ho.v h.v h1 h2 h3) fun σ H Q ⟨H0, F0, F, env, r, q⟩ => by
  refine ⟨H0, F0, F, env, r, ?_⟩
  unfold fSplit at q
  refine Rs.post_mono (Rs.post_bind.mp q) (fun p hp v F1 H1 r1 v1 e1 e2 => ?_) fun _ _ x => x
  obtain ⟨env1, n, d⟩ := p
  dsimp only at hp v1
  split at hp
  · rename_i a
    refine ⟨⟨a, vw_str v1⟩, H0, F0, F1, env1, r1, ?_⟩
    refine Rs.post_mono (Rs.post_bind.mp hp) (fun p2 hp2 u F2 H2 r2 v2 e3 e4 => ?_) fun _ _ x => x.to e2 e1
    obtain ⟨env2, m, d2⟩ := p2
    dsimp only at hp2 v2
    split at hp2
    · rename_i b
      obtain ⟨g, hp2⟩ := grd_post hp2
      obtain ⟨g1, g2⟩ := Bool.and_eq_true_iff.mp g
      have g2 := of_decide_eq_true g2
      refine ⟨a, b, vw_str v1, by rw [vw_str v2], by simpa using g1, million' (by omega), fun l hl => ?_⟩
      exact hp2 _ F2 _ (VRes.rel r2 (Ext.allocH r2.fz hl) ⟨l, _, rfl, hl, same_none r2.fz hl, upd_same, isA_strs _⟩) ((e1.trans e3).trans (same_new hl)) (e2.trans e4)
    · exact hp2.elim
  · exact hp.elim
theorem d_ends (ho : DE X W o fo) (h : DE X W e f) (h1 : starEach [e] X.env = [(false, eval e X.env)] := by rfl) (h2 : attributeBase o "endswith" X.env (eval o X.env) = eval o X.env := by rfl) (h3 : (apos.endLine == pos.line) = true := by rfl) :
    DE X W (.Call (.Attribute o "endswith" apos) [e] [] pos) (fEnds (rd fo) (rd f)) := pe_le (pe_m1 PySem.F.slot_str_endswith PySem.F.type_str_endswith mt_endswith ho.v h.v h1 h2 h3) fun σ H Q ⟨H0, F0, F, env, r, q⟩ => by
  refine ⟨H0, F0, F, env, r, ?_⟩
  unfold fEnds at q
  refine Rs.post_mono (Rs.post_bind.mp q) (fun p hp v F1 H1 r1 v1 e1 e2 => ?_) fun _ _ x => x
  obtain ⟨env1, n, d⟩ := p
  dsimp only at hp v1
  split at hp
  · rename_i a
    refine ⟨⟨a, vw_str v1⟩, H0, F0, F1, env1, r1, ?_⟩
    refine Rs.post_mono (Rs.post_bind.mp hp) (fun p2 hp2 u F2 H2 r2 v2 e3 e4 => ?_) fun _ _ x => x.to e2 e1
    obtain ⟨env2, m, d2⟩ := p2
    dsimp only at hp2 v2
    split at hp2
    · rename_i b
      exact ⟨a, b, vw_str v1, by rw [vw_str v2], hp2 _ F2 H2 ⟨r2, .bl _⟩ (e1.trans e3) (e2.trans e4)⟩
    · exact hp2.elim
  · exact hp.elim
def bIntT (p : Dv) : Rs R := match p.2 with
  | .str x => (match PySem.intText? x with
    | some n => grd (decide (x.length ≤ 640)) (sc (.int n))
    | none => .bad)
  | _ => bInt p
theorem bIntT_no : ∀ p, Nx (bIntT p) := fun p => by
  unfold bIntT; (repeat' (first | exact trivial | (refine grd_no ?_) | (exact bInt_no _) | split))
theorem cr_intT : CallR X (.type "int") (rGN X.K (g1 bIntT)) := fun pins s σ H xs us Q I rs h => by
  obtain ⟨H0, F, ps, fz, bs, vs, hp⟩ := h
  match ps, hp with
  | [], hp => exact hp.elim
  | p :: p2 :: rest, hp => exact hp.elim
  | [p], hp =>
    cases vs with
    | cons vx vn =>
      cases vn
      obtain ⟨n, d⟩ := p
      have hp : (bIntT (n, d)).post _ _ := hp
      unfold bIntT at hp
      dsimp only at hp
      split at hp
      · split at hp
        · rename_i i hi
          obtain ⟨g, hp⟩ := grd_post hp
          obtain rfl := vw_str vx
          exact call_int_str pins s σ H _ us Q I rs ⟨_, i, rfl, hi, of_decide_eq_true g, sc_ok hp fz (.int _)⟩
        · exact hp.elim
      · exact cr_int pins s σ H _ us Q I rs ⟨H0, F, [(n, d)], fz, bs, .cons vx .nil, hp⟩
end
section
variable {β : Type} {env e : Env} {h : HX β} {v w : FV} {n : Bool}
def spl2 (a : Str) (e : Env) (d : PyData) (k : Env → R → Rs β) : Rs β := match d with
  | .str b => grd (!(b.length == 0) && decide (a.length ≤ 900000)) (k e (.nw true ((Txt.split a b).map PyData.str)))
  | _ => .bad
def splK (e : Env) (d : PyData) (w : FV) (h : HX β) (k : Env → R → Rs β) : Rs β := match d with
  | .str a => cV w e h fun e2 _ d2 => spl2 a e2 d2 k
  | _ => .bad
@[simp ↓] theorem splK_s {a : Str} {k : Env → R → Rs β} : splK e (.str a) w h k = cV w e h fun e2 _ d2 => spl2 a e2 d2 k := id rfl
theorem spl2_s {a b : Str} {k : Env → R → Rs β} (hb : (b.length == 0) = false) (ha : a.length ≤ 900000) : spl2 a e (.str b) k = k e (.nw true ((Txt.split a b).map PyData.str)) := by
  unfold spl2
  dsimp only
  rw [hb, decide_eq_true ha]
  rfl
@[simp ↓] theorem cE_split {k : Env → R → Rs β} : cE (fSplit v w) env h k = cV v env h fun e _ d => splK e d w h k := by
  unfold cE cV fSplit
  rw [on_bind]
  refine congrArg _ (funext fun p => ?_)
  obtain ⟨e, n, d⟩ := p
  unfold splK
  cases d with
  | str a =>
    show on ((w e).bind _) h _ = cV w e h _
    unfold cV
    rw [on_bind]
    refine congrArg _ (funext fun p2 => ?_)
    obtain ⟨e2, m, d2⟩ := p2
    unfold spl2
    cases d2 with
    | str b =>
      dsimp only
      cases (!(b.length == 0) && decide (a.length ≤ 900000)) <;> rfl
    | _ => rfl
  | _ => rfl
def end2 (a : Str) (e : Env) (d : PyData) (k : Env → R → Rs β) : Rs β := match d with
  | .str b => k e (.sh true (.bool (Txt.endswith a b)))
  | _ => .bad
def endK (e : Env) (d : PyData) (w : FV) (h : HX β) (k : Env → R → Rs β) : Rs β := match d with
  | .str a => cV w e h fun e2 _ d2 => end2 a e2 d2 k
  | _ => .bad
@[simp ↓] theorem endK_s {a : Str} {k : Env → R → Rs β} : endK e (.str a) w h k = cV w e h fun e2 _ d2 => end2 a e2 d2 k := id rfl
@[simp ↓] theorem end2_s {a b : Str} {k : Env → R → Rs β} : end2 a e (.str b) k = k e (.sh true (.bool (Txt.endswith a b))) := id rfl
@[simp ↓] theorem cE_ends {k : Env → R → Rs β} : cE (fEnds v w) env h k = cV v env h fun e _ d => endK e d w h k := by
  unfold cE cV fEnds
  rw [on_bind]
  refine congrArg _ (funext fun p => ?_)
  obtain ⟨e, n, d⟩ := p
  unfold endK
  cases d with
  | str a =>
    show on ((w e).bind _) h _ = cV w e h _
    unfold cV
    rw [on_bind]
    refine congrArg _ (funext fun p2 => ?_)
    obtain ⟨e2, m, d2⟩ := p2
    cases d2 <;> rfl
  | _ => rfl
theorem bIntT_s {x : Str} {i : Int} {k : R → Rs β} (hi : PySem.intText? x = some i) (hl : x.length ≤ 640) : cR (bIntT (n, .str x)) h k = k (.sh true (.int i)) := by
  unfold cR bIntT
  dsimp only
  rw [hi]
  dsimp only
  rw [decide_eq_true hl]
  rfl
end
end Dn
namespace Dn
open PySem PySem.Spec L2
def b_lines_of_v2 : FS :=
    (fSeq (fIfS (fB (rd (f2 (gEqN false) (rd (fVar 0)) (rd (fC (.str "")))))) (fRaiseI "BadText" ["line", "column"] (fCons (st (fC (.int 1))) (fCons (st (fC (.int 1))) fNil))) fNext)
    (fSeq (fSet 1 (fSplit (rd (fVar 0)) (rd (fC (.str "\n")))))
    (fRet (fIf (fB (rd (f2 (gEqN false) (rd (f2 gIx (rd (fVar 1)) (rd (f1 gNeg (rd (fC (.int 1))))))) (rd (fC (.str "")))))) (fSl (rd (fVar 1)) fNo (fPart (rd (f1 gNeg (rd (fC (.int 1))))))) (fVar 1)))))
def S_lines_of_v2 : SF := runF 2 1 b_lines_of_v2
end Dn
namespace Dn
open PySem PySem.Spec L2
def b_is_number : FS :=
    (fSeq (fIfS (fOr (fNot (fB (rd (fChI [(fun i j => decide (i ≤ j)), (fun i j => decide (i ≤ j))] (rd (fC (.int 1))) [rd (fB1 (g1 bLen) (fCons (rd (fVar 0)) fNil)), rd (fC (.int 3))])))) (fNot (fB (rd (fGenS (fun bs => bs.all id) (st (fVar 0)) [] (qInS (qVar 0) (qStr "0123456789"))))))) (fRet (fC (.bool false))) fNext)
    (fRet (fOrV (rd (f2 (gEqN false) (rd (fVar 0)) (rd (fC (.str "0"))))) (f2 (gEqN true) (rd (f2 gIx (rd (fVar 0)) (rd (fC (.int 0))))) (rd (fC (.str "0")))))))
def S_is_number : SF := runF 2 1 b_is_number
end Dn
namespace Dn
open PySem PySem.Spec L2
def b_is_right : FS :=
    (fSeq (fIfS (fB (rd (f2 (gEqN false) (rd (fVar 1)) (rd (fC (.int 0)))))) (fRet (f2 (gEqN false) (rd (fVar 0)) (rd (fVar 2)))) fNext)
    (fRet (fAndV (rd (f2 gLe (rd (fVar 1)) (rd (fVar 3)))) (fCall S_is_number (fCons (st (fVar 0)) fNil)))))
def S_is_right : SF := runF 4 4 b_is_right
end Dn
namespace Dn
open PySem PySem.Spec L2
def l1_read_line_v2 : FS :=
    (fFg [6, 7] (fSeq (fIfS (fNot (fB (rd (fCall S_is_right (fCons (st (fVar 7)) (fCons (st (fVar 6)) (fCons (st (fVar 2)) (fCons (st (fVar 3)) fNil)))))))) (fRaiseI "BadText" ["line", "column"] (fCons (st (fVar 0)) (fCons (st (fVar 5)) fNil))) fNext)
    (fSet 5 (f2 gAdd (rd (f2 gAdd (rd (fVar 5)) (rd (fB1 (g1 bLen) (fCons (rd (fVar 7)) fNil))))) (rd (fC (.int 1)))))))
def e1_read_line_v2 : FE :=
    (fB1 (g1 bIntT) (fCons (rd (fVar 7)) fNil))
def b_read_line_v2 : FS :=
    (fSeq (fSet 4 (fSplit (rd (fVar 1)) (rd (fC (.str " ")))))
    (fSeq (fSet 5 (fC (.int 1)))
    (fSeq (fFor (fEnum (st (fVar 4))) (gT 2 (gsC (gN 6) (gsC (gN 7) gsN))) l1_read_line_v2)
    (fSeq (fIfS (fB (rd (f2 gLe (rd (fB1 (g1 bLen) (fCons (rd (fVar 4)) fNil))) (rd (fVar 3))))) (fRaiseI "BadText" ["line", "column"] (fCons (st (fVar 0)) (fCons (st (f2 gAdd (rd (fB1 (g1 bLen) (fCons (rd (fVar 1)) fNil))) (rd (fC (.int 1))))) fNil))) fNext)
    (fRet (fLc [7] (fIt (st (fSl (rd (fVar 4)) (fPart (rd (fC (.int 1)))) fNo))) (gN 7) fYes (st e1_read_line_v2)))))))
def S_read_line_v2 : SF := runF 8 4 b_read_line_v2
end Dn
namespace Dn
open PySem PySem.Spec L2
def b_check_end_v2 : FS :=
    (fIfS (fNot (fB (rd (fEnds (rd (fVar 0)) (rd (fC (.str "\n"))))))) (fRaiseI "BadText" ["line", "column"] (fCons (st (fB1 (g1 bLen) (fCons (rd (fVar 1)) fNil))) (fCons (st (f2 gAdd (rd (fB1 (g1 bLen) (fCons (rd (f2 gIx (rd (fVar 1)) (rd (f1 gNeg (rd (fC (.int 1))))))) fNil))) (rd (fC (.int 1))))) fNil))) fNext)
def S_check_end_v2 : SF := runF 2 2 b_check_end_v2
end Dn
namespace Dn
open PySem PySem.Spec L2
def b_is_whole : FS :=
    (fRet (fAndV (rd (fIsi "int" (rd (fVar 0)))) (fNotV (rd (fIsi "bool" (rd (fVar 0)))))))
def S_is_whole : SF := runF 1 1 b_is_whole
end Dn
namespace Dn
open PySem PySem.Spec L2
def Sq_is_whole : List PyData → Option PyData := qRun 1 1 (qAnd (qIsi "int" (qVar 0)) (qNot (qIsi "bool" (qVar 0))))
end Dn
namespace Dn
open PySem PySem.Spec L2
def b_all_whole : FS :=
    (fRet (fGenW (fun bs => bs.all id) (st (fVar 0)) [] (qCall Sq_is_whole (qCons (qVar 0) (fun _ => some [])))))
def S_all_whole : SF := runF 2 1 b_all_whole
end Dn
namespace Dn
open PySem PySem.Spec L2
def b_is_road : FS :=
    (fSeq (fIfS (fNot (fB (rd (fCall S_all_whole (fCons (st (fVar 1)) fNil))))) (fRet (fC (.bool false))) fNext)
    (fSeq (fAsg (gT 3 (gsC (gN 2) (gsC (gN 3) (gsC (gN 4) gsN)))) (st (fVar 1)))
    (fRet (fAndV (rd (fChI [(fun i j => decide (i ≤ j)), (fun i j => decide (i < j)), (fun i j => decide (i < j))] (rd (fC (.int 0))) [rd (fVar 2), rd (fVar 3), rd (fVar 0)])) (fChI [(fun i j => decide (i ≤ j)), (fun i j => decide (i ≤ j))] (rd (fC (.int 1))) [rd (fVar 4), rd (fC (.int 9))])))))
def S_is_road : SF := runF 5 2 b_is_road
end Dn
namespace Dn
open PySem PySem.Spec L2
def l1_check_town_v2 : FS :=
    (fFg [4, 5] (fSeq (fIfS (fOr (fNot (fB (rd (fCall S_is_road (fCons (st (fVar 2)) (fCons (st (fVar 5)) fNil)))))) (fB (rd (f2 gLeT (rd (fSl (rd (fVar 5)) fNo (fPart (rd (fC (.int 2)))))) (rd (fVar 1)))))) (fRaiseI "BadRoad" ["at"] (fCons (st (fVar 4)) fNil)) fNext)
    (fSet 1 (fSl (rd (fVar 5)) fNo (fPart (rd (fC (.int 2))))))))
def b_check_town_v2 : FS :=
    (fSeq (fAsg (gT 2 (gsC (gN 2) (gsC (gN 3) gsN))) (st (fVar 0)))
    (fSeq (fIfS (fOr (fNot (fB (rd (fCall S_is_whole (fCons (st (fVar 2)) fNil))))) (fNot (fB (rd (fChI [(fun i j => decide (i ≤ j)), (fun i j => decide (i ≤ j))] (rd (fC (.int 1))) [rd (fVar 2), rd (fC (.int 7))]))))) (fRaise0 "BadSize") fNext)
    (fSeq (fSet 1 (fTup (fCons (st (f1 gNeg (rd (fC (.int 1))))) (fCons (st (f1 gNeg (rd (fC (.int 1))))) fNil))))
    (fFor (fEnum (st (fVar 3))) (gT 2 (gsC (gN 4) (gsC (gN 5) gsN))) l1_check_town_v2))))
def S_check_town_v2 : SF := runF 6 1 b_check_town_v2
end Dn
namespace Dn
open PySem PySem.Spec L2
def l1_read_town_v2 : FS :=
    (fFg [4, 5] (fApp 3 (st (fB1 (g1 bTuple) (fCons (rd (fCall S_read_line_v2 (fCons (st (fVar 4)) (fCons (st (fVar 5)) (fCons (st (fC (.str "road"))) (fCons (st (fC (.int 3))) fNil)))))) fNil)))))
def b_read_town_v2 : FS :=
    (fSeq (fSet 1 (fCall S_lines_of_v2 (fCons (st (fVar 0)) fNil)))
    (fSeq (fSet 2 (f2 gIx (rd (fCall S_read_line_v2 (fCons (st (fC (.int 1))) (fCons (st (f2 gIx (rd (fVar 1)) (rd (fC (.int 0))))) (fCons (st (fC (.str "places"))) (fCons (st (fC (.int 1))) fNil)))))) (rd (fC (.int 0)))))
    (fSeq (fSet 3 (fLst fNil))
    (fSeq (fFor (fEnumC 2 (st (fSl (rd (fVar 1)) (fPart (rd (fC (.int 1)))) fNo))) (gT 2 (gsC (gN 4) (gsC (gN 5) gsN))) l1_read_town_v2)
    (fSeq (fDrop (fCall S_check_end_v2 (fCons (st (fVar 0)) (fCons (st (fVar 1)) fNil))))
    (fSeq (fDrop (fCall S_check_town_v2 (fCons (st (fTup (fCons (st (fVar 2)) (fCons (st (fVar 3)) fNil)))) fNil)))
    (fRet (fTup (fCons (st (fVar 2)) (fCons (st (fVar 3)) fNil))))))))))
def S_read_town_v2 : SF := runF 6 1 b_read_town_v2
end Dn
namespace Dn
open PySem PySem.Spec L2
def e1_write_town : FE :=
    (fJoined [(rd (fC (.str "road "))), (fFmt (rd (fVar 4))), (rd (fC (.str " "))), (fFmt (rd (fVar 5))), (rd (fC (.str " "))), (fFmt (rd (fVar 6))), (rd (fC (.str "\n")))])
def b_write_town : FS :=
    (fSeq (fAsg (gT 2 (gsC (gN 2) (gsC (gN 3) gsN))) (st (fVar 0)))
    (fSeq (fSet 1 (fLc [4, 5, 6] (fIt (st (fVar 3))) (gT 3 (gsC (gN 4) (gsC (gN 5) (gsC (gN 6) gsN)))) fYes (st e1_write_town)))
    (fRet (f2 gAdd (rd (fJoined [(rd (fC (.str "places "))), (fFmt (rd (fVar 2))), (rd (fC (.str "\n")))])) (rd (fJoin (rd (fC (.str ""))) (rd (fVar 1))))))))
def S_write_town : SF := runF 7 1 b_write_town
end Dn
namespace Dn
open PySem PySem.Spec L2
def l1_law_k11 : FS :=
    (fFg [4, 5] (fSeq (fCallRg 5 S_read_town_v2 (fCons (st (fVar 3)) fNil))
    (fSeq (fIfS (fOr (fB (rd (f2 (gEqN true) (rd (fB1 (g1 bRepr) (fCons (rd (fVar 5)) fNil))) (rd (fB1 (g1 bRepr) (fCons (rd (fVar 2)) fNil)))))) (fB (rd (f2 (gEqN true) (rd (fCall S_write_town (fCons (st (fVar 5)) fNil))) (rd (fVar 3)))))) (fRet (fC (.bool false))) fNext)
    (fAppRg 5 1 (st (fC (.int 0)))))))
def b_law_k11 : FS :=
    (fSeq (fSet 1 (fCall S_law_draws (fCons (st (fVar 0)) (fCons (st (fC (.int 30))) fNil))))
    (fSeq (fSet 2 (fCall S_law_town (fCons (st (fVar 1)) (fCons (st (fC (.int 7))) fNil))))
    (fSeq (fSet 3 (fCall S_law_text (fCons (st (fCall S_law_lines (fCons (st (fVar 2)) fNil))) fNil)))
    (fSeq (fFor (fRg1 (fCons (rd (fC (.int 2))) fNil)) (gN 4) l1_law_k11)
    (fRet (fC (.bool true)))))))
def S_law_k11 : SF := runF 6 1 b_law_k11
end Dn
namespace Dn
open PySem PySem.Spec L2
structure CT where
  (BadSize BadRoad BadText : Addr)
end Dn
namespace Gk11
open PySem PySem.Spec L2 Dn
def topS (i : Nat) : Stmt := PySem.Challenge.pw_evernear_k11_towns_read_back.main.body.getD i (.Pass ⟨0, 0, 0, 0⟩)
abbrev s__law_draws : Stmt := topS 23
abbrev N__law_draws : List Str := ["script", "count", "rests", "draws", "k", "value", "cell", "at", "mixed"]
abbrev P__law_draws : List Str := ["script", "count"]
theorem sc__law_draws : FnScope N__law_draws P__law_draws (defScope s__law_draws) := ⟨rfl, rfl, rfl, by decide +kernel, rfl, by decide +kernel, by decide +kernel⟩
abbrev s__law_town : Stmt := topS 24
abbrev N__law_town : List Str := ["draws", "most", "places", "roads", "k", "first", "second"]
abbrev P__law_town : List Str := ["draws", "most"]
theorem sc__law_town : FnScope N__law_town P__law_town (defScope s__law_town) := ⟨rfl, rfl, rfl, by decide +kernel, rfl, by decide +kernel, by decide +kernel⟩
abbrev s__law_text : Stmt := topS 26
abbrev N__law_text : List Str := ["lines", "words"]
abbrev P__law_text : List Str := ["lines"]
theorem sc__law_text : FnScope N__law_text P__law_text (defScope s__law_text) := ⟨rfl, rfl, rfl, by decide +kernel, rfl, by decide +kernel, by decide +kernel⟩
abbrev s__law_lines : Stmt := topS 25
abbrev N__law_lines : List Str := ["town", "road", "number"]
abbrev P__law_lines : List Str := ["town"]
theorem sc__law_lines : FnScope N__law_lines P__law_lines (defScope s__law_lines) := ⟨rfl, rfl, rfl, by decide +kernel, rfl, by decide +kernel, by decide +kernel⟩
abbrev s__lines_of : Stmt := topS 17
abbrev N__lines_of : List Str := ["text", "lines"]
abbrev P__lines_of : List Str := ["text"]
theorem sc__lines_of : FnScope N__lines_of P__lines_of (defScope s__lines_of) := ⟨rfl, rfl, rfl, by decide +kernel, rfl, by decide +kernel, by decide +kernel⟩
abbrev s__is_number : Stmt := topS 20
abbrev N__is_number : List Str := ["word", "sign"]
abbrev P__is_number : List Str := ["word"]
theorem sc__is_number : FnScope N__is_number P__is_number (defScope s__is_number) := ⟨rfl, rfl, rfl, by decide +kernel, rfl, by decide +kernel, by decide +kernel⟩
abbrev s__is_right : Stmt := topS 19
abbrev N__is_right : List Str := ["word", "at", "first", "many"]
abbrev P__is_right : List Str := ["word", "at", "first", "many"]
theorem sc__is_right : FnScope N__is_right P__is_right (defScope s__is_right) := ⟨rfl, rfl, rfl, by decide +kernel, rfl, by decide +kernel, by decide +kernel⟩
abbrev s__read_line : Stmt := topS 18
abbrev N__read_line : List Str := ["number", "line", "first", "many", "words", "column", "at", "word"]
abbrev P__read_line : List Str := ["number", "line", "first", "many"]
theorem sc__read_line : FnScope N__read_line P__read_line (defScope s__read_line) := ⟨rfl, rfl, rfl, by decide +kernel, rfl, by decide +kernel, by decide +kernel⟩
abbrev s__check_end : Stmt := topS 21
abbrev N__check_end : List Str := ["text", "lines"]
abbrev P__check_end : List Str := ["text", "lines"]
theorem sc__check_end : FnScope N__check_end P__check_end (defScope s__check_end) := ⟨rfl, rfl, rfl, by decide +kernel, rfl, by decide +kernel, by decide +kernel⟩
abbrev s_is_whole : Stmt := topS 8
abbrev N_is_whole : List Str := ["value"]
abbrev P_is_whole : List Str := ["value"]
theorem sc_is_whole : FnScope N_is_whole P_is_whole (defScope s_is_whole) := ⟨rfl, rfl, rfl, by decide +kernel, rfl, by decide +kernel, by decide +kernel⟩
abbrev s__all_whole : Stmt := topS 10
abbrev N__all_whole : List Str := ["road", "value"]
abbrev P__all_whole : List Str := ["road"]
theorem sc__all_whole : FnScope N__all_whole P__all_whole (defScope s__all_whole) := ⟨rfl, rfl, rfl, by decide +kernel, rfl, by decide +kernel, by decide +kernel⟩
abbrev s__is_road : Stmt := topS 11
abbrev N__is_road : List Str := ["places", "road", "first", "second", "length"]
abbrev P__is_road : List Str := ["places", "road"]
theorem sc__is_road : FnScope N__is_road P__is_road (defScope s__is_road) := ⟨rfl, rfl, rfl, by decide +kernel, rfl, by decide +kernel, by decide +kernel⟩
abbrev s_check_town : Stmt := topS 9
abbrev N_check_town : List Str := ["town", "ahead", "places", "roads", "at", "road"]
abbrev P_check_town : List Str := ["town"]
theorem sc_check_town : FnScope N_check_town P_check_town (defScope s_check_town) := ⟨rfl, rfl, rfl, by decide +kernel, rfl, by decide +kernel, by decide +kernel⟩
abbrev s_read_town : Stmt := topS 16
abbrev N_read_town : List Str := ["text", "lines", "places", "roads", "number", "line"]
abbrev P_read_town : List Str := ["text"]
theorem sc_read_town : FnScope N_read_town P_read_town (defScope s_read_town) := ⟨rfl, rfl, rfl, by decide +kernel, rfl, by decide +kernel, by decide +kernel⟩
abbrev s_write_town : Stmt := topS 15
abbrev N_write_town : List Str := ["town", "lines", "places", "roads", "first", "second", "length"]
abbrev P_write_town : List Str := ["town"]
theorem sc_write_town : FnScope N_write_town P_write_town (defScope s_write_town) := ⟨rfl, rfl, rfl, by decide +kernel, rfl, by decide +kernel, by decide +kernel⟩
abbrev s_law : Stmt := topS 27
abbrev N_law : List Str := ["script", "draws", "town", "text", "turn", "told"]
abbrev P_law : List Str := ["script"]
theorem sc_law : FnScope N_law P_law (defScope s_law) := ⟨rfl, rfl, rfl, by decide +kernel, rfl, by decide +kernel, by decide +kernel⟩
def sI_BadRoad : Stmt := match topS 3 with | .ClassDef _ _ _ body _ _ _ _ _ _ _ => body.getD 0 (.Pass ⟨0, 0, 0, 0⟩) | _ => .Pass ⟨0, 0, 0, 0⟩
abbrev NI_BadRoad : List Str := ["self", "at"]
theorem scI_BadRoad : FnScope NI_BadRoad NI_BadRoad (defScope sI_BadRoad) := ⟨rfl, rfl, rfl, by decide +kernel, rfl, by decide +kernel, by decide +kernel⟩
def sI_BadText : Stmt := match topS 4 with | .ClassDef _ _ _ body _ _ _ _ _ _ _ => body.getD 0 (.Pass ⟨0, 0, 0, 0⟩) | _ => .Pass ⟨0, 0, 0, 0⟩
abbrev NI_BadText : List Str := ["self", "line", "column"]
theorem scI_BadText : FnScope NI_BadText NI_BadText (defScope sI_BadText) := ⟨rfl, rfl, rfl, by decide +kernel, rfl, by decide +kernel, by decide +kernel⟩
structure Bn (K : PySem.W.Frag) (mg : Str → Option Value) where
  a__law_draws : Addr
  d__law_draws : FuncData
  F__law_draws : Fun K "_law_draws" "_law_draws" s__law_draws a__law_draws d__law_draws
  g__law_draws : mg "_law_draws" = some (.ref a__law_draws)
  b__law_draws : Binds K d__law_draws P__law_draws []
  a__law_town : Addr
  d__law_town : FuncData
  F__law_town : Fun K "_law_town" "_law_town" s__law_town a__law_town d__law_town
  g__law_town : mg "_law_town" = some (.ref a__law_town)
  b__law_town : Binds K d__law_town P__law_town []
  a__law_text : Addr
  d__law_text : FuncData
  F__law_text : Fun K "_law_text" "_law_text" s__law_text a__law_text d__law_text
  g__law_text : mg "_law_text" = some (.ref a__law_text)
  b__law_text : Binds K d__law_text P__law_text []
  a__law_lines : Addr
  d__law_lines : FuncData
  F__law_lines : Fun K "_law_lines" "_law_lines" s__law_lines a__law_lines d__law_lines
  g__law_lines : mg "_law_lines" = some (.ref a__law_lines)
  b__law_lines : Binds K d__law_lines P__law_lines []
  a__lines_of : Addr
  d__lines_of : FuncData
  F__lines_of : Fun K "_lines_of" "_lines_of" s__lines_of a__lines_of d__lines_of
  g__lines_of : mg "_lines_of" = some (.ref a__lines_of)
  b__lines_of : Binds K d__lines_of P__lines_of []
  a__is_number : Addr
  d__is_number : FuncData
  F__is_number : Fun K "_is_number" "_is_number" s__is_number a__is_number d__is_number
  g__is_number : mg "_is_number" = some (.ref a__is_number)
  b__is_number : Binds K d__is_number P__is_number []
  tc__is_number : Addr
  tp__is_number : Addr
  tt__is_number : PySem.W.tabIn K "_is_number" = some (tc__is_number, tp__is_number)
  td__is_number : d__is_number.code = .ref tc__is_number
  a__is_right : Addr
  d__is_right : FuncData
  F__is_right : Fun K "_is_right" "_is_right" s__is_right a__is_right d__is_right
  g__is_right : mg "_is_right" = some (.ref a__is_right)
  b__is_right : Binds K d__is_right P__is_right []
  a__read_line : Addr
  d__read_line : FuncData
  F__read_line : Fun K "_read_line" "_read_line" s__read_line a__read_line d__read_line
  g__read_line : mg "_read_line" = some (.ref a__read_line)
  b__read_line : Binds K d__read_line P__read_line []
  a__check_end : Addr
  d__check_end : FuncData
  F__check_end : Fun K "_check_end" "_check_end" s__check_end a__check_end d__check_end
  g__check_end : mg "_check_end" = some (.ref a__check_end)
  b__check_end : Binds K d__check_end P__check_end []
  a_is_whole : Addr
  d_is_whole : FuncData
  F_is_whole : Fun K "is_whole" "is_whole" s_is_whole a_is_whole d_is_whole
  g_is_whole : mg "is_whole" = some (.ref a_is_whole)
  b_is_whole : Binds K d_is_whole P_is_whole []
  a__all_whole : Addr
  d__all_whole : FuncData
  F__all_whole : Fun K "_all_whole" "_all_whole" s__all_whole a__all_whole d__all_whole
  g__all_whole : mg "_all_whole" = some (.ref a__all_whole)
  b__all_whole : Binds K d__all_whole P__all_whole []
  tc__all_whole : Addr
  tp__all_whole : Addr
  tt__all_whole : PySem.W.tabIn K "_all_whole" = some (tc__all_whole, tp__all_whole)
  td__all_whole : d__all_whole.code = .ref tc__all_whole
  a__is_road : Addr
  d__is_road : FuncData
  F__is_road : Fun K "_is_road" "_is_road" s__is_road a__is_road d__is_road
  g__is_road : mg "_is_road" = some (.ref a__is_road)
  b__is_road : Binds K d__is_road P__is_road []
  a_check_town : Addr
  d_check_town : FuncData
  F_check_town : Fun K "check_town" "check_town" s_check_town a_check_town d_check_town
  g_check_town : mg "check_town" = some (.ref a_check_town)
  b_check_town : Binds K d_check_town P_check_town []
  a_read_town : Addr
  d_read_town : FuncData
  F_read_town : Fun K "read_town" "read_town" s_read_town a_read_town d_read_town
  g_read_town : mg "read_town" = some (.ref a_read_town)
  b_read_town : Binds K d_read_town P_read_town []
  a_write_town : Addr
  d_write_town : FuncData
  F_write_town : Fun K "write_town" "write_town" s_write_town a_write_town d_write_town
  g_write_town : mg "write_town" = some (.ref a_write_town)
  b_write_town : Binds K d_write_town P_write_town []
  a_law : Addr
  d_law : FuncData
  F_law : Fun K "law" "law" s_law a_law d_law
  g_law : mg "law" = some (.ref a_law)
  b_law : Binds K d_law P_law []
  m_isinstance : mg "isinstance" = none
  m_int : mg "int" = none
  m_bool : mg "bool" = none
  m_enumerate : mg "enumerate" = none
  m_all : mg "all" = none
  m_tuple : mg "tuple" = none
  m_len : mg "len" = none
  m_range : mg "range" = none
  m_str : mg "str" = none
  m_repr : mg "repr" = none
  c_MOST_PLACES : ∃ t, mg "MOST_PLACES" = some (.int 7 t)
  c_MOST_LENGTH : ∃ t, mg "MOST_LENGTH" = some (.int 9 t)
  c_MOST_DIGITS : ∃ t, mg "MOST_DIGITS" = some (.int 3 t)
  c_DIGITS : ∃ t, mg "DIGITS" = some (.str "0123456789" t)
  c : CT
  gc_BadSize : mg "BadSize" = some (.ref c.BadSize)
  gc_BadRoad : mg "BadRoad" = some (.ref c.BadRoad)
  gc_BadText : mg "BadText" = some (.ref c.BadText)
  e_BadSize : ErrC K c.BadSize
  e_BadRoad : ErrC K c.BadRoad
  e_BadText : ErrC K c.BadText
  ty_BadSize : PySem.W.typeIn K (.ref c.BadSize) = some (.type "type")
  x_BadSize : PySem.W.excIn K c.BadSize [.type "ValueError", .type "Exception", .type "BaseException", .type "object"] "ValueError.__new__" = true
  kc_BadSize : PySem.W.keepIn K (.ref c.BadSize) = true
  T_BadRoad : OexC K c.BadRoad
  fI_BadRoad : Addr
  dI_BadRoad : FuncData
  FI_BadRoad : Fun K "__init__" "BadRoad.__init__" sI_BadRoad fI_BadRoad dI_BadRoad
  iC_BadRoad : PySem.W.findIn K (.ref c.BadRoad) "__init__" = some (some (.ref fI_BadRoad))
  tI_BadRoad : PySem.W.typeIn K (.ref fI_BadRoad) = some (.type "function")
  bI_BadRoad : Binds K dI_BadRoad NI_BadRoad []
  no_BadRoad_at : PySem.W.findIn K (.ref c.BadRoad) "at" = some none
  T_BadText : OexC K c.BadText
  fI_BadText : Addr
  dI_BadText : FuncData
  FI_BadText : Fun K "__init__" "BadText.__init__" sI_BadText fI_BadText dI_BadText
  iC_BadText : PySem.W.findIn K (.ref c.BadText) "__init__" = some (some (.ref fI_BadText))
  tI_BadText : PySem.W.typeIn K (.ref fI_BadText) = some (.type "function")
  bI_BadText : Binds K dI_BadText NI_BadText []
  no_BadText_line : PySem.W.findIn K (.ref c.BadText) "line" = some none
  no_BadText_column : PySem.W.findIn K (.ref c.BadText) "column" = some none
theorem Bn.ok_BadRoad {K : PySem.W.Frag} {mg : Str → Option Value} (B : Bn K mg) (P : Program) (w : World) (base : Heap) : FnOk P w K mg base CX0 1 B.fI_BadRoad B.dI_BadRoad NI_BadRoad (spI B.c.BadRoad ["at"]) :=
  init1 B.FI_BadRoad scI_BadRoad rfl B.T_BadRoad B.no_BadRoad_at (.inl rfl) (.inl rfl)
theorem Bn.ok_BadText {K : PySem.W.Frag} {mg : Str → Option Value} (B : Bn K mg) (P : Program) (w : World) (base : Heap) : FnOk P w K mg base CX0 1 B.fI_BadText B.dI_BadText NI_BadText (spI B.c.BadText ["line", "column"]) :=
  init2 B.FI_BadText scI_BadText rfl B.T_BadText B.no_BadText_line B.no_BadText_column (.inl rfl) (.inl rfl) (.inl rfl)
section
variable {P : Program} {w : World} {K : PySem.W.Frag} {mg : Str → Option Value} {base : Heap}
theorem okq_is_whole (B : Bn K mg) : QFn P w K mg base 1 B.a_is_whole B.d_is_whole P_is_whole Sq_is_whole :=
  qfn_ret B.F_is_whole sc_is_whole (by decide +kernel) rfl fun cdv A s C => (q_and (q_isi (T := "int") C (by rfl) (by rfl) B.m_isinstance (by decide +kernel) (by rfl) B.m_int (by decide +kernel) (q_var C 0)) (q_not (q_isi (T := "bool") C (by rfl) (by rfl) B.m_isinstance (by decide +kernel) (by rfl) B.m_bool (by decide +kernel) (q_var C 0))))
theorem ok__law_draws (B : Bn K mg) : FnG P w K mg base 1 B.a__law_draws B.d__law_draws P__law_draws S_law_draws :=
  fn_d B.F__law_draws sc__law_draws fun cdv A outer s H E hr hg => (ss_cons (s_setLc (own := [("cell", 6)]) 2 rfl sc__law_draws.nd rfl rfl (sw_true rfl rfl rfl (by decide +kernel)) (i_seq (d_var 0)) (blkOk_by (N := N__law_draws) (sc := (defScope s__law_draws)) (by decide +kernel)) (by decide) (fun _ _ _ _ _ => (g_name 6 sc__law_draws.nd)) (fun _ _ _ _ _ => ts_nil) (fun _ _ _ _ _ => (d_var 6)))
      (ss_cons (s_set 3 sc__law_draws.nd (d_lst dad_nil))
      (ss_cons (s_for (passes_of rfl) rfl (i_range1 (by rfl) B.m_range (dav_cons (d_var 1) dav_nil)) (g_name 4 sc__law_draws.nd) gN_no (ss_forget [4, 5, 7, 8] (ss_cons (s_set 5 sc__law_draws.nd d_int)
      (ss_cons (s_if (t_cmp op_gGt gI_no (d_b cr_len (g1_no bLen_no) (by rfl) B.m_len (by decide +kernel) (dav_cons (d_var 2) dav_nil)) d_int (nomark _)) (ss_cons (s_set 7 sc__law_draws.nd (d_op op_gMod gI_no (d_ty cr_int (g1_no bInt_no) (by rfl) B.m_int (by decide +kernel) (dav_cons (d_var 4) dav_nil)) (d_b cr_len (g1_no bLen_no) (by rfl) B.m_len (by decide +kernel) (dav_cons (d_var 2) dav_nil))))
      (ss_one (s_if (t_cmp op_gGe gI_no (d_ix (ix_g hr.units) gIx_no (d_var 2) (d_var 7) (fun _ _ => rfl)) (d_op op_gPow gI_no d_int d_int) (nomark _)) (ss_cons (s_set 5 sc__law_draws.nd (d_op op_gMod gI_no (d_ty cr_int (g1_no bInt_no) (by rfl) B.m_int (by decide +kernel) (dav_cons (d_ix (ix_g hr.units) gIx_no (d_var 2) (d_var 7) (fun _ _ => rfl)) dav_nil)) d_int))
      (ss_one (s_putIx 2 (d_var 7) (d_op op_gFdv gI_no (d_ix (ix_g hr.units) gIx_no (d_var 2) (d_var 7) (fun _ _ => rfl)) d_int)))) (ss_cons (s_set 8 sc__law_draws.nd (d_op op_gMod gI_no (d_ty cr_int (g1_no bInt_no) (by rfl) B.m_int (by decide +kernel) (dav_cons (d_op op_gAdd gAdd_no (d_op op_gAdd gAdd_no (d_op op_gMul gMul_no (d_ix (ix_g hr.units) gIx_no (d_var 2) (d_var 7) (fun _ _ => rfl)) d_int) (d_op op_gMul gMul_no (d_var 4) d_int)) d_int) dav_nil)) d_int))
      (ss_cons (s_set 8 sc__law_draws.nd (d_op op_gMod gI_no (d_ty cr_int (g1_no bInt_no) (by rfl) B.m_int (by decide +kernel) (dav_cons (d_op op_gAdd gAdd_no (d_op op_gMul gMul_no (d_var 8) d_int) (d_var 7)) dav_nil)) d_int))
      (ss_one (s_set 5 sc__law_draws.nd (d_op op_gMod gI_no (d_ty cr_int (g1_no bInt_no) (by rfl) B.m_int (by decide +kernel) (dav_cons (d_op op_gFdv gI_no (d_var 8) d_int) dav_nil)) d_int)))))))) ss_nil)
      (ss_one (s_app 3 (d_var 5)))))))
      (ss_one (s_ret (d_var 3))))))
theorem ok__law_town (B : Bn K mg) : FnG P w K mg base 1 B.a__law_town B.d__law_town P__law_town S_law_town :=
  fn_d B.F__law_town sc__law_town fun cdv A outer s H E hr hg => (ss_cons (s_set 2 sc__law_town.nd (d_op op_gAdd gAdd_no d_int (d_op op_gMod gI_no (d_ty cr_int (g1_no bInt_no) (by rfl) B.m_int (by decide +kernel) (dav_cons (d_ix (ix_g hr.units) gIx_no (d_var 0) d_int (fun _ _ => rfl)) dav_nil)) (d_var 1))))
      (ss_cons (s_set 3 sc__law_town.nd (d_lst dad_nil))
      (ss_cons (s_set 4 sc__law_town.nd d_int)
      (ss_cons (s_for (passes_of rfl) rfl (i_range1 (by rfl) B.m_range (dav_cons (d_var 2) dav_nil)) (g_name 5 sc__law_town.nd) gN_no (ss_forget [5, 6] (ss_one (s_for (passes_of rfl) rfl (i_range2 (by rfl) B.m_range (dav_cons (d_op op_gAdd gAdd_no (d_var 5) d_int) (dav_cons (d_var 2) dav_nil))) (g_name 6 sc__law_town.nd) gN_no (ss_forget [6] (ss_cons (s_if (t_cmp op_gLt gI_no (d_op op_gMod gI_no (d_ty cr_int (g1_no bInt_no) (by rfl) B.m_int (by decide +kernel) (dav_cons (d_ix (ix_g hr.units) gIx_no (d_var 0) (d_var 4) (fun _ _ => rfl)) dav_nil)) d_int) d_int (nomark _)) (ss_one (s_app 3 (d_tup (dad_cons (d_var 5) (dad_cons (d_var 6) (dad_cons (d_op op_gAdd gAdd_no d_int (d_op op_gMod gI_no (d_ty cr_int (g1_no bInt_no) (by rfl) B.m_int (by decide +kernel) (dav_cons (d_op op_gFdv gI_no (d_ix (ix_g hr.units) gIx_no (d_var 0) (d_var 4) (fun _ _ => rfl)) d_int) dav_nil)) (d_ix (ix_g hr.units) gIx_no (d_lst (dad_cons d_int (dad_cons d_int dad_nil))) (d_op op_gMod gI_no (d_ty cr_int (g1_no bInt_no) (by rfl) B.m_int (by decide +kernel) (dav_cons (d_op op_gFdv gI_no (d_ix (ix_g hr.units) gIx_no (d_var 0) (d_var 4) (fun _ _ => rfl)) d_int) dav_nil)) d_int) (fun _ _ => rfl)))) dad_nil)))))) ss_nil)
      (ss_one (s_set 4 sc__law_town.nd (d_op op_gAdd gAdd_no (d_var 4) d_int)))))))))
      (ss_one (s_ret (d_tup (dad_cons (d_var 2) (dad_cons (d_var 3) dad_nil)))))))))
theorem ok__law_text (B : Bn K mg) : FnG P w K mg base 1 B.a__law_text B.d__law_text P__law_text S_law_text :=
  fn_d B.F__law_text sc__law_text fun cdv A outer s H E hr hg => (ss_one (s_ret (d_join d_str (d_lc (own := [("words", 1)]) rfl sc__law_text.nd (i_seq (d_var 0)) (blkOk_by (N := N__law_text) (sc := (defScope s__law_text)) (by decide +kernel)) (by decide) (fun _ _ _ _ _ => (g_name 1 sc__law_text.nd)) (fun _ _ _ _ _ => ts_nil) (fun _ _ _ _ _ => (d_op op_gAdd gAdd_no (d_join d_str (d_var 1)) d_str))))))
theorem ok__law_lines (B : Bn K mg) : FnG P w K mg base 1 B.a__law_lines B.d__law_lines P__law_lines S_law_lines :=
  fn_d B.F__law_lines sc__law_lines fun cdv A outer s H E hr hg => (ss_one (s_ret (d_op op_gAdd gAdd_no (d_lst (dad_cons (d_lst (dad_cons d_str (dad_cons (d_ty cr_str (g1_no bStr_no) (by rfl) B.m_str (by decide +kernel) (dav_cons (d_ix (ix_g hr.units) gIx_no (d_var 0) d_int (fun _ _ => rfl)) dav_nil)) dad_nil))) dad_nil)) (d_lc (own := [("road", 1)]) rfl sc__law_lines.nd (i_seq (d_ix (ix_g hr.units) gIx_no (d_var 0) d_int (fun _ _ => rfl))) (blkOk_by (N := N__law_lines) (sc := (defScope s__law_lines)) (by decide +kernel)) (by decide) (fun _ _ _ _ _ => (g_name 1 sc__law_lines.nd)) (fun _ _ _ _ _ => ts_nil) (fun _ _ _ _ _ => (d_op op_gAdd gAdd_no (d_lst (dad_cons d_str dad_nil)) (d_lc (own := [("number", 2)]) rfl sc__law_lines.nd (i_seq (d_var 1)) (blkOk_by (N := N__law_lines) (sc := (relS _ (defScope s__law_lines))) (by decide +kernel)) (by decide) (fun _ _ _ _ _ => (g_name 2 sc__law_lines.nd)) (fun _ _ _ _ _ => ts_nil) (fun _ _ _ _ _ => (d_ty cr_str (g1_no bStr_no) (by rfl) B.m_str (by decide +kernel) (dav_cons (d_var 2) dav_nil))))))))))
theorem ok__lines_of (B : Bn K mg) : FnG P w K mg base 3 B.a__lines_of B.d__lines_of P__lines_of S_lines_of_v2 :=
  fn_d B.F__lines_of sc__lines_of fun cdv A outer s H E hr hg => (ss_cons (s_if (t_cmp (op_gEq hr.units) gEqN_no (d_var 0) d_str (nomark _)) (ss_one (s_raiseI rfl (takes_of rfl rfl rfl rfl : Takes _ (WL E)) (by decide) B.T_BadText B.iC_BadText B.tI_BadText (B.ok_BadText _ _ _) (hr.mono (by decide)) B.bI_BadText pass0 (by rfl) B.gc_BadText (dad_cons d_int (dad_cons d_int dad_nil)))) ss_nil)
      (ss_cons (s_set 1 sc__lines_of.nd (d_split (d_var 0) d_str))
      (ss_one (s_ret (d_if (t_cmp (op_gEq hr.units) gEqN_no (d_ix (ix_g hr.units) gIx_no (d_var 1) (d_un un_gNeg gNeg_no d_int) (fun _ _ => rfl)) d_str (nomark _)) (d_slice (d_var 1) o_none (o_some (d_un un_gNeg gNeg_no d_int))) (d_var 1))))))
theorem ok__is_number (TB : TabsB K base mg) (B : Bn K mg) : FnG P w K mg base 2 B.a__is_number B.d__is_number P__is_number S_is_number :=
  fn_dc B.F__is_number sc__is_number B.td__is_number fun A outer s H E hr hg => (ss_cons (s_if (DW.t (w_or (t_not (t_chn d_int (.link op_le (d_b cr_len (g1_no bLen_no) (by rfl) B.m_len (by decide +kernel) (dav_cons (d_var 0) dav_nil)) (.last op_le (d_glob (by rfl) B.c_MOST_DIGITS))))) (w_or1 (t_not (t_val (d_allSt (k := 0) (nm := "_is_number") (hr.mono (by decide)) (by rfl) B.m_all TB (by decide) B.tt__is_number (by rfl) (by exact (show GQ (defScope s__is_number) _ _ from ⟨by rfl, by rfl, by decide +kernel, by rfl, by rfl, by decide +kernel⟩)) (d_var 0) (show FyOk _ _ [] [] from fy_nil) (fun cenv A hsc C => (q_inS (q_var C 0) (q_globS C (by show List.lookup _ cenv.scope.names = _; rw [hsc]; rfl) B.c_DIGITS))))))))) (ss_one (s_ret d_bl)) ss_nil)
      (ss_one (s_ret (d_or (d_cmp (op_gEq hr.units) gEqN_no (d_var 0) d_str (nomark _)) (d_one (d_cmp (op_gNe hr.units) gEqN_no (d_ix (ix_g hr.units) gIx_no (d_var 0) d_int (fun _ _ => rfl)) d_str (nomark _)))))))
theorem ok__is_right (TB : TabsB K base mg) (B : Bn K mg) : FnG P w K mg base 3 B.a__is_right B.d__is_right P__is_right S_is_right :=
  fn_d B.F__is_right sc__is_right fun cdv A outer s H E hr hg => (ss_cons (s_if (t_cmp (op_gEq hr.units) gEqN_no (d_var 1) d_int (nomark _)) (ss_one (s_ret (d_cmp (op_gEq hr.units) gEqN_no (d_var 0) (d_var 2) (nomark _)))) ss_nil)
      (ss_one (s_ret (d_and (d_cmp op_gLe gI_no (d_var 1) (d_var 3) (nomark _)) (d_one (d_call (ok__is_number TB B) (hr.mono (by decide)) hg (takes_of rfl rfl rfl rfl : Takes _ (WL E)) (by rfl) B.g__is_number B.F__is_number.kp B.b__is_number (dad_cons (d_var 0) dad_nil)))))))
theorem ok__read_line (TB : TabsB K base mg) (B : Bn K mg) : FnG P w K mg base 4 B.a__read_line B.d__read_line P__read_line S_read_line_v2 :=
  fn_d B.F__read_line sc__read_line fun cdv A outer s H E hr hg => (ss_cons (s_set 4 sc__read_line.nd (d_split (d_var 1) d_str))
      (ss_cons (s_set 5 sc__read_line.nd d_int)
      (ss_cons (s_for (passes_of rfl) rfl (i_enum (by rfl) B.m_enumerate (d_var 4)) (g_tup (n := 2) rfl (gs_cons (g_name 6 sc__read_line.nd) (gs_cons (g_name 7 sc__read_line.nd) gs_nil))) (gT_no (gsC_no gN_no (gsC_no gN_no gsN_no))) (ss_forget [6, 7] (ss_cons (s_if (t_not (t_val (d_call (ok__is_right TB B) (hr.mono (by decide)) hg (takes_of rfl rfl rfl rfl : Takes _ (WL E)) (by rfl) B.g__is_right B.F__is_right.kp B.b__is_right (dad_cons (d_var 7) (dad_cons (d_var 6) (dad_cons (d_var 2) (dad_cons (d_var 3) dad_nil))))))) (ss_one (s_raiseI rfl (takes_of rfl rfl rfl rfl : Takes _ (WL E)) (by decide) B.T_BadText B.iC_BadText B.tI_BadText (B.ok_BadText _ _ _) (hr.mono (by decide)) B.bI_BadText pass0 (by rfl) B.gc_BadText (dad_cons (d_var 0) (dad_cons (d_var 5) dad_nil)))) ss_nil)
      (ss_one (s_set 5 sc__read_line.nd (d_op op_gAdd gAdd_no (d_op op_gAdd gAdd_no (d_var 5) (d_b cr_len (g1_no bLen_no) (by rfl) B.m_len (by decide +kernel) (dav_cons (d_var 7) dav_nil))) d_int))))))
      (ss_cons (s_if (t_cmp op_gLe gI_no (d_b cr_len (g1_no bLen_no) (by rfl) B.m_len (by decide +kernel) (dav_cons (d_var 4) dav_nil)) (d_var 3) (nomark _)) (ss_one (s_raiseI rfl (takes_of rfl rfl rfl rfl : Takes _ (WL E)) (by decide) B.T_BadText B.iC_BadText B.tI_BadText (B.ok_BadText _ _ _) (hr.mono (by decide)) B.bI_BadText pass0 (by rfl) B.gc_BadText (dad_cons (d_var 0) (dad_cons (d_op op_gAdd gAdd_no (d_b cr_len (g1_no bLen_no) (by rfl) B.m_len (by decide +kernel) (dav_cons (d_var 1) dav_nil)) d_int) dad_nil)))) ss_nil)
      (ss_one (s_ret (d_lc (own := [("word", 7)]) rfl sc__read_line.nd (i_seq (d_slice (d_var 4) (o_some d_int) o_none)) (blkOk_by (N := N__read_line) (sc := (defScope s__read_line)) (by decide +kernel)) (by decide) (fun _ _ _ _ _ => (g_name 7 sc__read_line.nd)) (fun _ _ _ _ _ => ts_nil) (fun _ _ _ _ _ => (d_ty cr_intT (g1_no bIntT_no) (by rfl) B.m_int (by decide +kernel) (dav_cons (d_var 7) dav_nil))))))))))
theorem ok__check_end (B : Bn K mg) : FnG P w K mg base 3 B.a__check_end B.d__check_end P__check_end S_check_end_v2 :=
  fn_d B.F__check_end sc__check_end fun cdv A outer s H E hr hg => (ss_one (s_if (t_not (t_val (d_ends (d_var 0) d_str))) (ss_one (s_raiseI rfl (takes_of rfl rfl rfl rfl : Takes _ (WL E)) (by decide) B.T_BadText B.iC_BadText B.tI_BadText (B.ok_BadText _ _ _) (hr.mono (by decide)) B.bI_BadText pass0 (by rfl) B.gc_BadText (dad_cons (d_b cr_len (g1_no bLen_no) (by rfl) B.m_len (by decide +kernel) (dav_cons (d_var 1) dav_nil)) (dad_cons (d_op op_gAdd gAdd_no (d_b cr_len (g1_no bLen_no) (by rfl) B.m_len (by decide +kernel) (dav_cons (d_ix (ix_g hr.units) gIx_no (d_var 1) (d_un un_gNeg gNeg_no d_int) (fun _ _ => rfl)) dav_nil)) d_int) dad_nil)))) ss_nil))
theorem ok_is_whole (B : Bn K mg) : FnG P w K mg base 1 B.a_is_whole B.d_is_whole P_is_whole S_is_whole :=
  fn_d B.F_is_whole sc_is_whole fun cdv A outer s H E hr hg => (ss_one (s_ret (d_and (d_isi (T := "int") (by rfl) B.m_isinstance (by decide +kernel) (by rfl) B.m_int (by decide +kernel) (d_var 0)) (d_one (d_not (d_isi (T := "bool") (by rfl) B.m_isinstance (by decide +kernel) (by rfl) B.m_bool (by decide +kernel) (d_var 0)))))))
theorem ok__all_whole (TB : TabsB K base mg) (B : Bn K mg) : FnG P w K mg base 3 B.a__all_whole B.d__all_whole P__all_whole S_all_whole :=
  fn_dc B.F__all_whole sc__all_whole B.td__all_whole fun A outer s H E hr hg => (ss_one (s_ret (d_allV (nm := "_all_whole") (hr.mono (by decide)) (by rfl) B.m_all TB (by decide) B.tt__all_whole (by rfl) (by exact (show GQ (defScope s__all_whole) _ _ from ⟨by rfl, by rfl, by decide +kernel, by rfl, by rfl, by decide +kernel⟩)) (d_var 0) (show FyOk _ _ [] [] from fy_nil) (fun cenv A hsc C => (q_call C (okq_is_whole B) (by show List.lookup _ cenv.scope.names = _; rw [hsc]; rfl) B.g_is_whole B.F_is_whole.kp B.b_is_whole (qa_cons (q_var C 0) qa_nil))))))
theorem ok__is_road (TB : TabsB K base mg) (B : Bn K mg) : FnG P w K mg base 4 B.a__is_road B.d__is_road P__is_road S_is_road :=
  fn_d B.F__is_road sc__is_road fun cdv A outer s H E hr hg => (ss_cons (s_if (t_not (t_val (d_call (ok__all_whole TB B) (hr.mono (by decide)) hg (takes_of rfl rfl rfl rfl : Takes _ (WL E)) (by rfl) B.g__all_whole B.F__all_whole.kp B.b__all_whole (dad_cons (d_var 1) dad_nil)))) (ss_one (s_ret d_bl)) ss_nil)
      (ss_cons (s_asg (gT_no (gsC_no gN_no (gsC_no gN_no (gsC_no gN_no gsN_no)))) (d_var 1) (g_tup (n := 3) rfl (gs_cons (g_name 2 sc__is_road.nd) (gs_cons (g_name 3 sc__is_road.nd) (gs_cons (g_name 4 sc__is_road.nd) gs_nil)))))
      (ss_one (s_ret (d_and (d_chn d_int (.link op_le (d_var 2) (.link op_lt (d_var 3) (.last op_lt (d_var 0))))) (d_one (d_chn d_int (.link op_le (d_var 4) (.last op_le (d_glob (by rfl) B.c_MOST_LENGTH))))))))))
theorem ok_check_town (TB : TabsB K base mg) (B : Bn K mg) : FnG P w K mg base 5 B.a_check_town B.d_check_town P_check_town S_check_town_v2 :=
  fn_d B.F_check_town sc_check_town fun cdv A outer s H E hr hg => (ss_cons (s_asg (gT_no (gsC_no gN_no (gsC_no gN_no gsN_no))) (d_var 0) (g_tup (n := 2) rfl (gs_cons (g_name 2 sc_check_town.nd) (gs_cons (g_name 3 sc_check_town.nd) gs_nil))))
      (ss_cons (s_if (DW.t (w_or (t_not (t_val (d_call (ok_is_whole B) (hr.mono (by decide)) hg (takes_of rfl rfl rfl rfl : Takes _ (WL E)) (by rfl) B.g_is_whole B.F_is_whole.kp B.b_is_whole (dad_cons (d_var 2) dad_nil)))) (w_or1 (t_not (t_chn d_int (.link op_le (d_var 2) (.last op_le (d_glob (by rfl) B.c_MOST_PLACES)))))))) (ss_one (s_raise0p rfl (takes_of rfl rfl rfl rfl : Takes _ (WL E)) PySem.F.excBase_ValueError B.x_BadSize B.gc_BadSize B.kc_BadSize (raises_own B.e_BadSize.su B.ty_BadSize) (by rfl))) ss_nil)
      (ss_cons (s_set 1 sc_check_town.nd (d_tup (dad_cons (d_un un_gNeg gNeg_no d_int) (dad_cons (d_un un_gNeg gNeg_no d_int) dad_nil))))
      (ss_one (s_for (passes_of rfl) rfl (i_enum (by rfl) B.m_enumerate (d_var 3)) (g_tup (n := 2) rfl (gs_cons (g_name 4 sc_check_town.nd) (gs_cons (g_name 5 sc_check_town.nd) gs_nil))) (gT_no (gsC_no gN_no (gsC_no gN_no gsN_no))) (ss_forget [4, 5] (ss_cons (s_if (DW.t (w_or (t_not (t_val (d_call (ok__is_road TB B) (hr.mono (by decide)) hg (takes_of rfl rfl rfl rfl : Takes _ (WL E)) (by rfl) B.g__is_road B.F__is_road.kp B.b__is_road (dad_cons (d_var 2) (dad_cons (d_var 5) dad_nil))))) (w_or1 (t_cmp (op_gLeT hr.units) gLeT_no (d_slice (d_var 5) o_none (o_some d_int)) (d_var 1) (nomark _))))) (ss_one (s_raiseI rfl (takes_of rfl rfl rfl rfl : Takes _ (WL E)) (by decide) B.T_BadRoad B.iC_BadRoad B.tI_BadRoad (B.ok_BadRoad _ _ _) (hr.mono (by decide)) B.bI_BadRoad pass0 (by rfl) B.gc_BadRoad (dad_cons (d_var 4) dad_nil))) ss_nil)
      (ss_one (s_set 1 sc_check_town.nd (d_slice (d_var 5) o_none (o_some d_int)))))))))))
theorem ok_read_town (TB : TabsB K base mg) (B : Bn K mg) : FnG P w K mg base 6 B.a_read_town B.d_read_town P_read_town S_read_town_v2 :=
  fn_d B.F_read_town sc_read_town fun cdv A outer s H E hr hg => (ss_cons (s_set 1 sc_read_town.nd (d_call (ok__lines_of B) (hr.mono (by decide)) hg (takes_of rfl rfl rfl rfl : Takes _ (WL E)) (by rfl) B.g__lines_of B.F__lines_of.kp B.b__lines_of (dad_cons (d_var 0) dad_nil)))
      (ss_cons (s_set 2 sc_read_town.nd (d_ix (ix_g hr.units) gIx_no (d_call (ok__read_line TB B) (hr.mono (by decide)) hg (takes_of rfl rfl rfl rfl : Takes _ (WL E)) (by rfl) B.g__read_line B.F__read_line.kp B.b__read_line (dad_cons d_int (dad_cons (d_ix (ix_g hr.units) gIx_no (d_var 1) d_int (fun _ _ => rfl)) (dad_cons d_str (dad_cons d_int dad_nil))))) d_int (fun _ _ => rfl)))
      (ss_cons (s_set 3 sc_read_town.nd (d_lst dad_nil))
      (ss_cons (s_for (passes_of rfl) rfl (i_enumC 2 (by rfl) (by decide) (by rfl) B.m_enumerate (d_slice (d_var 1) (o_some d_int) o_none)) (g_tup (n := 2) rfl (gs_cons (g_name 4 sc_read_town.nd) (gs_cons (g_name 5 sc_read_town.nd) gs_nil))) (gT_no (gsC_no gN_no (gsC_no gN_no gsN_no))) (ss_forget [4, 5] (ss_one (s_app 3 (d_ty cr_gtuple (g1_no bTuple_no) (by rfl) B.m_tuple (by decide +kernel) (dav_cons (d_call (ok__read_line TB B) (hr.mono (by decide)) hg (takes_of rfl rfl rfl rfl : Takes _ (WL E)) (by rfl) B.g__read_line B.F__read_line.kp B.b__read_line (dad_cons (d_var 4) (dad_cons (d_var 5) (dad_cons d_str (dad_cons d_int dad_nil))))) dav_nil))))))
      (ss_cons (s_expr (d_call (ok__check_end B) (hr.mono (by decide)) hg (takes_of rfl rfl rfl rfl : Takes _ (WL E)) (by rfl) B.g__check_end B.F__check_end.kp B.b__check_end (dad_cons (d_var 0) (dad_cons (d_var 1) dad_nil))))
      (ss_cons (s_expr (d_call (ok_check_town TB B) (hr.mono (by decide)) hg (takes_of rfl rfl rfl rfl : Takes _ (WL E)) (by rfl) B.g_check_town B.F_check_town.kp B.b_check_town (dad_cons (d_tup (dad_cons (d_var 2) (dad_cons (d_var 3) dad_nil))) dad_nil)))
      (ss_one (s_ret (d_tup (dad_cons (d_var 2) (dad_cons (d_var 3) dad_nil)))))))))))
theorem ok_write_town (B : Bn K mg) : FnG P w K mg base 1 B.a_write_town B.d_write_town P_write_town S_write_town :=
  fn_d B.F_write_town sc_write_town fun cdv A outer s H E hr hg => (ss_cons (s_asg (gT_no (gsC_no gN_no (gsC_no gN_no gsN_no))) (d_var 0) (g_tup (n := 2) rfl (gs_cons (g_name 2 sc_write_town.nd) (gs_cons (g_name 3 sc_write_town.nd) gs_nil))))
      (ss_cons (s_setLc (own := [("first", 4), ("second", 5), ("length", 6)]) 1 rfl sc_write_town.nd rfl rfl (sw_true rfl rfl rfl (by decide +kernel)) (i_seq (d_var 3)) (blkOk_by (N := N_write_town) (sc := (defScope s_write_town)) (by decide +kernel)) (by decide) (fun _ _ _ _ _ => (g_tup (n := 3) rfl (gs_cons (g_name 4 sc_write_town.nd) (gs_cons (g_name 5 sc_write_town.nd) (gs_cons (g_name 6 sc_write_town.nd) gs_nil))))) (fun _ _ _ _ _ => ts_nil) (fun _ _ _ _ _ => (d_joined (.cons (DE.v d_str) (.cons (v_fmt (d_var 4)) (.cons (DE.v d_str) (.cons (v_fmt (d_var 5)) (.cons (DE.v d_str) (.cons (v_fmt (d_var 6)) (.cons (DE.v d_str) .nil))))))))))
      (ss_one (s_ret (d_op op_gAdd gAdd_no (d_joined (.cons (DE.v d_str) (.cons (v_fmt (d_var 2)) (.cons (DE.v d_str) .nil)))) (d_join d_str (d_var 1)))))))
theorem ok_law (TB : TabsB K base mg) (B : Bn K mg) : FnG P w K mg base 7 B.a_law B.d_law P_law S_law_k11 :=
  fn_d B.F_law sc_law fun cdv A outer s H E hr hg => (ss_cons (s_set 1 sc_law.nd (d_call (ok__law_draws B) (hr.mono (by decide)) hg (takes_of rfl rfl rfl rfl : Takes _ (WL E)) (by rfl) B.g__law_draws B.F__law_draws.kp B.b__law_draws (dad_cons (d_var 0) (dad_cons d_int dad_nil))))
      (ss_cons (s_set 2 sc_law.nd (d_call (ok__law_town B) (hr.mono (by decide)) hg (takes_of rfl rfl rfl rfl : Takes _ (WL E)) (by rfl) B.g__law_town B.F__law_town.kp B.b__law_town (dad_cons (d_var 1) (dad_cons d_int dad_nil))))
      (ss_cons (s_set 3 sc_law.nd (d_call (ok__law_text B) (hr.mono (by decide)) hg (takes_of rfl rfl rfl rfl : Takes _ (WL E)) (by rfl) B.g__law_text B.F__law_text.kp B.b__law_text (dad_cons (d_call (ok__law_lines B) (hr.mono (by decide)) hg (takes_of rfl rfl rfl rfl : Takes _ (WL E)) (by rfl) B.g__law_lines B.F__law_lines.kp B.b__law_lines (dad_cons (d_var 2) dad_nil)) dad_nil)))
      (ss_cons (s_for (passes_of rfl) rfl (i_range1 (by rfl) B.m_range (dav_cons d_int dav_nil)) (g_name 4 sc_law.nd) gN_no (ss_forget [4, 5] (ss_cons (s_callRg 5 (ok_read_town TB B (P := P) (w := w) (base := base)).len (pe_callG (ok_read_town TB B) (hr.mono (by decide)) hg (takes_of rfl rfl rfl rfl : Takes _ (WL E)) (by rfl) B.g_read_town B.F_read_town.kp B.b_read_town (dad_cons (d_var 3) dad_nil)) sc_law.nd)
      (ss_cons (s_if (DW.t (w_or (t_cmp (op_gNe hr.units) gEqN_no (d_b (cr_repr hg hr.units) (g1_no bRepr_no) (by rfl) B.m_repr (by decide +kernel) (dav_cons (d_var 5) dav_nil)) (d_b (cr_repr hg hr.units) (g1_no bRepr_no) (by rfl) B.m_repr (by decide +kernel) (dav_cons (d_var 2) dav_nil)) (nomark _)) (w_or1 (t_cmp (op_gNe hr.units) gEqN_no (d_call (ok_write_town B) (hr.mono (by decide)) hg (takes_of rfl rfl rfl rfl : Takes _ (WL E)) (by rfl) B.g_write_town B.F_write_town.kp B.b_write_town (dad_cons (d_var 5) dad_nil)) (d_var 3) (nomark _))))) (ss_one (s_ret d_bl)) ss_nil)
      (ss_one (s_appRg 5 d_int))))))
      (ss_one (s_ret d_bl))))))
end
def bn_mk {K : PySem.W.Frag} {h : Heap} {mg : Str → Option Value} (X : K.In h) (G : h.Ns mainGlobals mg)
    {f0 : Addr} {od0 an0 : Option Addr} {sl0 : Array (Option Value)} {oc0 kV0 dc0 pm0 cd0 ct0 : Value}
    {f1 : Addr} {od1 an1 : Option Addr} {sl1 : Array (Option Value)} {oc1 kV1 dc1 pm1 cd1 ct1 : Value}
    {f2 : Addr} {od2 an2 : Option Addr} {sl2 : Array (Option Value)} {oc2 kV2 dc2 pm2 cd2 ct2 : Value}
    {f3 : Addr} {od3 an3 : Option Addr} {sl3 : Array (Option Value)} {oc3 kV3 dc3 pm3 cd3 ct3 : Value}
    {f4 : Addr} {od4 an4 : Option Addr} {sl4 : Array (Option Value)} {oc4 kV4 dc4 pm4 cd4 ct4 : Value}
    {f5 : Addr} {od5 an5 : Option Addr} {sl5 : Array (Option Value)} {oc5 kV5 dc5 pm5 ct5 : Value}
    {tc5 tp5 : Addr} {to5 : Value} {td5 : Option Addr} {tv5 : Array Value} {ts5 : Array (Option Value)}
    {f6 : Addr} {od6 an6 : Option Addr} {sl6 : Array (Option Value)} {oc6 kV6 dc6 pm6 cd6 ct6 : Value}
    {f7 : Addr} {od7 an7 : Option Addr} {sl7 : Array (Option Value)} {oc7 kV7 dc7 pm7 cd7 ct7 : Value}
    {f8 : Addr} {od8 an8 : Option Addr} {sl8 : Array (Option Value)} {oc8 kV8 dc8 pm8 cd8 ct8 : Value}
    {f9 : Addr} {od9 an9 : Option Addr} {sl9 : Array (Option Value)} {oc9 kV9 dc9 pm9 cd9 ct9 : Value}
    {f10 : Addr} {od10 an10 : Option Addr} {sl10 : Array (Option Value)} {oc10 kV10 dc10 pm10 ct10 : Value}
    {tc10 tp10 : Addr} {to10 : Value} {td10 : Option Addr} {tv10 : Array Value} {ts10 : Array (Option Value)}
    {f11 : Addr} {od11 an11 : Option Addr} {sl11 : Array (Option Value)} {oc11 kV11 dc11 pm11 cd11 ct11 : Value}
    {f12 : Addr} {od12 an12 : Option Addr} {sl12 : Array (Option Value)} {oc12 kV12 dc12 pm12 cd12 ct12 : Value}
    {f13 : Addr} {od13 an13 : Option Addr} {sl13 : Array (Option Value)} {oc13 kV13 dc13 pm13 cd13 ct13 : Value}
    {f14 : Addr} {od14 an14 : Option Addr} {sl14 : Array (Option Value)} {oc14 kV14 dc14 pm14 cd14 ct14 : Value}
    {f15 : Addr} {od15 an15 : Option Addr} {sl15 : Array (Option Value)} {oc15 kV15 dc15 pm15 cd15 ct15 : Value}
    {qt0 : Tok}
    {qt1 : Tok}
    {qt2 : Tok}
    {qt3 : Tok}
    {C_BadSize : Addr}
    {C_BadRoad : Addr}
    {C_BadText : Addr}
    {cd_BadSize : ClassData}
    {cd_BadRoad : ClassData}
    {cd_BadText : ClassData}
    {nm_BadRoad q_BadRoad : Str} {N_BadRoad : Addr} {bs_BadRoad bm_BadRoad sub_BadRoad : List Value} {sn_BadRoad : List Str} {ab_BadRoad : Bool} {col_BadRoad : Option Bool} {dd_BadRoad : Option Addr} {k0_BadRoad k1_BadRoad k2_BadRoad k3_BadRoad k5_BadRoad : Option Value}
    {fI_BadRoad : Addr} {odI_BadRoad anI_BadRoad : Option Addr} {slI_BadRoad : Array (Option Value)} {ocI_BadRoad kVI_BadRoad dcI_BadRoad pmI_BadRoad cdI_BadRoad ctI_BadRoad : Value}
    {nm_BadText q_BadText : Str} {N_BadText : Addr} {bs_BadText bm_BadText sub_BadText : List Value} {sn_BadText : List Str} {ab_BadText : Bool} {col_BadText : Option Bool} {dd_BadText : Option Addr} {k0_BadText k1_BadText k2_BadText k3_BadText k5_BadText : Option Value}
    {fI_BadText : Addr} {odI_BadText anI_BadText : Option Addr} {slI_BadText : Array (Option Value)} {ocI_BadText kVI_BadText dcI_BadText pmI_BadText cdI_BadText ctI_BadText : Value}
    (a0 : PySem.W.nsIn K mainGlobals "_law_draws" = some (some (.ref f0))) (l0 : K.lookup f0 = some ⟨oc0, od0, .func (PySem.W.fnOf "_law_draws" "_law_draws" (defArgs s__law_draws) (defBody s__law_draws) (defScope s__law_draws) .none kV0 dc0 pm0 an0 cd0 ct0), sl0⟩) (c0 : PySem.W.codeIn K cd0 "_law_draws" = true) (k0 : PySem.W.keepIn K (.ref f0) = true)
    (a1 : PySem.W.nsIn K mainGlobals "_law_town" = some (some (.ref f1))) (l1 : K.lookup f1 = some ⟨oc1, od1, .func (PySem.W.fnOf "_law_town" "_law_town" (defArgs s__law_town) (defBody s__law_town) (defScope s__law_town) .none kV1 dc1 pm1 an1 cd1 ct1), sl1⟩) (c1 : PySem.W.codeIn K cd1 "_law_town" = true) (k1 : PySem.W.keepIn K (.ref f1) = true)
    (a2 : PySem.W.nsIn K mainGlobals "_law_text" = some (some (.ref f2))) (l2 : K.lookup f2 = some ⟨oc2, od2, .func (PySem.W.fnOf "_law_text" "_law_text" (defArgs s__law_text) (defBody s__law_text) (defScope s__law_text) .none kV2 dc2 pm2 an2 cd2 ct2), sl2⟩) (c2 : PySem.W.codeIn K cd2 "_law_text" = true) (k2 : PySem.W.keepIn K (.ref f2) = true)
    (a3 : PySem.W.nsIn K mainGlobals "_law_lines" = some (some (.ref f3))) (l3 : K.lookup f3 = some ⟨oc3, od3, .func (PySem.W.fnOf "_law_lines" "_law_lines" (defArgs s__law_lines) (defBody s__law_lines) (defScope s__law_lines) .none kV3 dc3 pm3 an3 cd3 ct3), sl3⟩) (c3 : PySem.W.codeIn K cd3 "_law_lines" = true) (k3 : PySem.W.keepIn K (.ref f3) = true)
    (a4 : PySem.W.nsIn K mainGlobals "_lines_of" = some (some (.ref f4))) (l4 : K.lookup f4 = some ⟨oc4, od4, .func (PySem.W.fnOf "_lines_of" "_lines_of" (defArgs s__lines_of) (defBody s__lines_of) (defScope s__lines_of) .none kV4 dc4 pm4 an4 cd4 ct4), sl4⟩) (c4 : PySem.W.codeIn K cd4 "_lines_of" = true) (k4 : PySem.W.keepIn K (.ref f4) = true)
    (a5 : PySem.W.nsIn K mainGlobals "_is_number" = some (some (.ref f5))) (l5 : K.lookup f5 = some ⟨oc5, od5, .func (PySem.W.fnOf "_is_number" "_is_number" (defArgs s__is_number) (defBody s__is_number) (defScope s__is_number) .none kV5 dc5 pm5 an5 (.ref tc5) ct5), sl5⟩) (c5 : PySem.W.codeIn K (.ref tc5) "_is_number" = true) (k5 : PySem.W.keepIn K (.ref f5) = true)
    (t5 : K.lookup tc5 = some ⟨to5, td5, .fields tv5, ts5⟩) (u5 : tv5[11]? = some (.ref tp5))
    (a6 : PySem.W.nsIn K mainGlobals "_is_right" = some (some (.ref f6))) (l6 : K.lookup f6 = some ⟨oc6, od6, .func (PySem.W.fnOf "_is_right" "_is_right" (defArgs s__is_right) (defBody s__is_right) (defScope s__is_right) .none kV6 dc6 pm6 an6 cd6 ct6), sl6⟩) (c6 : PySem.W.codeIn K cd6 "_is_right" = true) (k6 : PySem.W.keepIn K (.ref f6) = true)
    (a7 : PySem.W.nsIn K mainGlobals "_read_line" = some (some (.ref f7))) (l7 : K.lookup f7 = some ⟨oc7, od7, .func (PySem.W.fnOf "_read_line" "_read_line" (defArgs s__read_line) (defBody s__read_line) (defScope s__read_line) .none kV7 dc7 pm7 an7 cd7 ct7), sl7⟩) (c7 : PySem.W.codeIn K cd7 "_read_line" = true) (k7 : PySem.W.keepIn K (.ref f7) = true)
    (a8 : PySem.W.nsIn K mainGlobals "_check_end" = some (some (.ref f8))) (l8 : K.lookup f8 = some ⟨oc8, od8, .func (PySem.W.fnOf "_check_end" "_check_end" (defArgs s__check_end) (defBody s__check_end) (defScope s__check_end) .none kV8 dc8 pm8 an8 cd8 ct8), sl8⟩) (c8 : PySem.W.codeIn K cd8 "_check_end" = true) (k8 : PySem.W.keepIn K (.ref f8) = true)
    (a9 : PySem.W.nsIn K mainGlobals "is_whole" = some (some (.ref f9))) (l9 : K.lookup f9 = some ⟨oc9, od9, .func (PySem.W.fnOf "is_whole" "is_whole" (defArgs s_is_whole) (defBody s_is_whole) (defScope s_is_whole) .none kV9 dc9 pm9 an9 cd9 ct9), sl9⟩) (c9 : PySem.W.codeIn K cd9 "is_whole" = true) (k9 : PySem.W.keepIn K (.ref f9) = true)
    (a10 : PySem.W.nsIn K mainGlobals "_all_whole" = some (some (.ref f10))) (l10 : K.lookup f10 = some ⟨oc10, od10, .func (PySem.W.fnOf "_all_whole" "_all_whole" (defArgs s__all_whole) (defBody s__all_whole) (defScope s__all_whole) .none kV10 dc10 pm10 an10 (.ref tc10) ct10), sl10⟩) (c10 : PySem.W.codeIn K (.ref tc10) "_all_whole" = true) (k10 : PySem.W.keepIn K (.ref f10) = true)
    (t10 : K.lookup tc10 = some ⟨to10, td10, .fields tv10, ts10⟩) (u10 : tv10[11]? = some (.ref tp10))
    (a11 : PySem.W.nsIn K mainGlobals "_is_road" = some (some (.ref f11))) (l11 : K.lookup f11 = some ⟨oc11, od11, .func (PySem.W.fnOf "_is_road" "_is_road" (defArgs s__is_road) (defBody s__is_road) (defScope s__is_road) .none kV11 dc11 pm11 an11 cd11 ct11), sl11⟩) (c11 : PySem.W.codeIn K cd11 "_is_road" = true) (k11 : PySem.W.keepIn K (.ref f11) = true)
    (a12 : PySem.W.nsIn K mainGlobals "check_town" = some (some (.ref f12))) (l12 : K.lookup f12 = some ⟨oc12, od12, .func (PySem.W.fnOf "check_town" "check_town" (defArgs s_check_town) (defBody s_check_town) (defScope s_check_town) .none kV12 dc12 pm12 an12 cd12 ct12), sl12⟩) (c12 : PySem.W.codeIn K cd12 "check_town" = true) (k12 : PySem.W.keepIn K (.ref f12) = true)
    (a13 : PySem.W.nsIn K mainGlobals "read_town" = some (some (.ref f13))) (l13 : K.lookup f13 = some ⟨oc13, od13, .func (PySem.W.fnOf "read_town" "read_town" (defArgs s_read_town) (defBody s_read_town) (defScope s_read_town) .none kV13 dc13 pm13 an13 cd13 ct13), sl13⟩) (c13 : PySem.W.codeIn K cd13 "read_town" = true) (k13 : PySem.W.keepIn K (.ref f13) = true)
    (a14 : PySem.W.nsIn K mainGlobals "write_town" = some (some (.ref f14))) (l14 : K.lookup f14 = some ⟨oc14, od14, .func (PySem.W.fnOf "write_town" "write_town" (defArgs s_write_town) (defBody s_write_town) (defScope s_write_town) .none kV14 dc14 pm14 an14 cd14 ct14), sl14⟩) (c14 : PySem.W.codeIn K cd14 "write_town" = true) (k14 : PySem.W.keepIn K (.ref f14) = true)
    (a15 : PySem.W.nsIn K mainGlobals "law" = some (some (.ref f15))) (l15 : K.lookup f15 = some ⟨oc15, od15, .func (PySem.W.fnOf "law" "law" (defArgs s_law) (defBody s_law) (defScope s_law) .none kV15 dc15 pm15 an15 cd15 ct15), sl15⟩) (c15 : PySem.W.codeIn K cd15 "law" = true) (k15 : PySem.W.keepIn K (.ref f15) = true)
    (qc0 : PySem.W.nsIn K mainGlobals "MOST_PLACES" = some (some (.int 7 qt0)))
    (qc1 : PySem.W.nsIn K mainGlobals "MOST_LENGTH" = some (some (.int 9 qt1)))
    (qc2 : PySem.W.nsIn K mainGlobals "MOST_DIGITS" = some (some (.int 3 qt2)))
    (qc3 : PySem.W.nsIn K mainGlobals "DIGITS" = some (some (.str "0123456789" qt3)))
    (ac_BadSize : PySem.W.nsIn K mainGlobals "BadSize" = some (some (.ref C_BadSize)))
    (ac_BadRoad : PySem.W.nsIn K mainGlobals "BadRoad" = some (some (.ref C_BadRoad)))
    (ac_BadText : PySem.W.nsIn K mainGlobals "BadText" = some (some (.ref C_BadText)))
    (ge : PySem.W.specialIn K (.builtin "object.__class__") "__get__" = some (some (.builtin "getset_descriptor.__get__")))
    (ta : PySem.W.takesIn K (.builtin "object.__class__") = some true)
    (cl_BadSize : PySem.W.clsIn K C_BadSize = some cd_BadSize)
    (ga_BadSize : PySem.W.findIn K (.ref C_BadSize) "__getattribute__" = some (some (.builtin "BaseException.__getattribute__")))
    (gg_BadSize : PySem.W.findIn K (.ref C_BadSize) "__getattr__" = some none)
    (su_BadSize : PySem.W.subIn K (.ref C_BadSize) (.type "BaseException") = some true)
    (ca_BadSize : PySem.W.findIn K (.ref C_BadSize) "__class__" = some (some (.builtin "object.__class__")))
    (ob_BadSize : PySem.W.mroIn K C_BadSize (.type "object") = some true)
    (hd_BadSize : PySem.W.hasDictIn K C_BadSize = true)
    (kc_BadSize : PySem.W.keepIn K (.ref C_BadSize) = true)
    (cl_BadRoad : PySem.W.clsIn K C_BadRoad = some cd_BadRoad)
    (ga_BadRoad : PySem.W.findIn K (.ref C_BadRoad) "__getattribute__" = some (some (.builtin "BaseException.__getattribute__")))
    (gg_BadRoad : PySem.W.findIn K (.ref C_BadRoad) "__getattr__" = some none)
    (su_BadRoad : PySem.W.subIn K (.ref C_BadRoad) (.type "BaseException") = some true)
    (ca_BadRoad : PySem.W.findIn K (.ref C_BadRoad) "__class__" = some (some (.builtin "object.__class__")))
    (ob_BadRoad : PySem.W.mroIn K C_BadRoad (.type "object") = some true)
    (hd_BadRoad : PySem.W.hasDictIn K C_BadRoad = true)
    (kc_BadRoad : PySem.W.keepIn K (.ref C_BadRoad) = true)
    (cl_BadText : PySem.W.clsIn K C_BadText = some cd_BadText)
    (ga_BadText : PySem.W.findIn K (.ref C_BadText) "__getattribute__" = some (some (.builtin "BaseException.__getattribute__")))
    (gg_BadText : PySem.W.findIn K (.ref C_BadText) "__getattr__" = some none)
    (su_BadText : PySem.W.subIn K (.ref C_BadText) (.type "BaseException") = some true)
    (ca_BadText : PySem.W.findIn K (.ref C_BadText) "__class__" = some (some (.builtin "object.__class__")))
    (ob_BadText : PySem.W.mroIn K C_BadText (.type "object") = some true)
    (hd_BadText : PySem.W.hasDictIn K C_BadText = true)
    (kc_BadText : PySem.W.keepIn K (.ref C_BadText) = true)
    (ty_BadSize : PySem.W.typeIn K (.ref C_BadSize) = some (.type "type"))
    (x_BadSize : PySem.W.excIn K C_BadSize [.type "ValueError", .type "Exception", .type "BaseException", .type "object"] "ValueError.__new__" = true)
    (xl_BadRoad : K.lookup C_BadRoad = some (excClassObj nm_BadRoad q_BadRoad C_BadRoad N_BadRoad bs_BadRoad bm_BadRoad true sn_BadRoad sub_BadRoad ab_BadRoad col_BadRoad dd_BadRoad k0_BadRoad k1_BadRoad k2_BadRoad k3_BadRoad k5_BadRoad "ValueError.__new__"))
    (rv_BadRoad : PySem.HandSPX.refsVE bm_BadRoad = true)
    (sa_BadRoad : PySem.W.findIn K (.ref C_BadRoad) "__setattr__" = some (some (.builtin "object.__setattr__")))
    (ty_BadRoad : PySem.W.typeIn K (.ref C_BadRoad) = some (.type "type"))
    (iC_BadRoad : PySem.W.findIn K (.ref C_BadRoad) "__init__" = some (some (.ref fI_BadRoad)))
    (tI_BadRoad : PySem.W.typeIn K (.ref fI_BadRoad) = some (.type "function"))
    (lI_BadRoad : K.lookup fI_BadRoad = some ⟨ocI_BadRoad, odI_BadRoad, .func (PySem.W.fnOf "__init__" "BadRoad.__init__" (defArgs sI_BadRoad) (defBody sI_BadRoad) (defScope sI_BadRoad) .none kVI_BadRoad dcI_BadRoad pmI_BadRoad anI_BadRoad cdI_BadRoad ctI_BadRoad), slI_BadRoad⟩)
    (cI_BadRoad : PySem.W.codeIn K cdI_BadRoad "BadRoad.__init__" = true)
    (kI_BadRoad : PySem.W.keepIn K (.ref fI_BadRoad) = true)
    (no_BadRoad_at : PySem.W.findIn K (.ref C_BadRoad) "at" = some none)
    (xl_BadText : K.lookup C_BadText = some (excClassObj nm_BadText q_BadText C_BadText N_BadText bs_BadText bm_BadText true sn_BadText sub_BadText ab_BadText col_BadText dd_BadText k0_BadText k1_BadText k2_BadText k3_BadText k5_BadText "ValueError.__new__"))
    (rv_BadText : PySem.HandSPX.refsVE bm_BadText = true)
    (sa_BadText : PySem.W.findIn K (.ref C_BadText) "__setattr__" = some (some (.builtin "object.__setattr__")))
    (ty_BadText : PySem.W.typeIn K (.ref C_BadText) = some (.type "type"))
    (iC_BadText : PySem.W.findIn K (.ref C_BadText) "__init__" = some (some (.ref fI_BadText)))
    (tI_BadText : PySem.W.typeIn K (.ref fI_BadText) = some (.type "function"))
    (lI_BadText : K.lookup fI_BadText = some ⟨ocI_BadText, odI_BadText, .func (PySem.W.fnOf "__init__" "BadText.__init__" (defArgs sI_BadText) (defBody sI_BadText) (defScope sI_BadText) .none kVI_BadText dcI_BadText pmI_BadText anI_BadText cdI_BadText ctI_BadText), slI_BadText⟩)
    (cI_BadText : PySem.W.codeIn K cdI_BadText "BadText.__init__" = true)
    (kI_BadText : PySem.W.keepIn K (.ref fI_BadText) = true)
    (no_BadText_line : PySem.W.findIn K (.ref C_BadText) "line" = some none)
    (no_BadText_column : PySem.W.findIn K (.ref C_BadText) "column" = some none)
    (z0 : PySem.W.nsIn K mainGlobals "isinstance" = some none) (z1 : PySem.W.nsIn K mainGlobals "int" = some none) (z2 : PySem.W.nsIn K mainGlobals "bool" = some none) (z3 : PySem.W.nsIn K mainGlobals "enumerate" = some none) (z4 : PySem.W.nsIn K mainGlobals "all" = some none) (z5 : PySem.W.nsIn K mainGlobals "tuple" = some none) (z6 : PySem.W.nsIn K mainGlobals "len" = some none) (z7 : PySem.W.nsIn K mainGlobals "range" = some none) (z8 : PySem.W.nsIn K mainGlobals "str" = some none) (z9 : PySem.W.nsIn K mainGlobals "repr" = some none) : Bn K mg :=
  have ee_BadSize : ErrC K C_BadSize := ⟨by rw [cl_BadSize]; rfl, ga_BadSize, gg_BadSize, su_BadSize, ca_BadSize, ge, ta, ob_BadSize, hd_BadSize⟩
  have ee_BadRoad : ErrC K C_BadRoad := ⟨by rw [cl_BadRoad]; rfl, ga_BadRoad, gg_BadRoad, su_BadRoad, ca_BadRoad, ge, ta, ob_BadRoad, hd_BadRoad⟩
  have ee_BadText : ErrC K C_BadText := ⟨by rw [cl_BadText]; rfl, ga_BadText, gg_BadText, su_BadText, ca_BadText, ge, ta, ob_BadText, hd_BadText⟩
  {
  a__law_draws := f0
  d__law_draws := PySem.W.fnOf "_law_draws" "_law_draws" (defArgs s__law_draws) (defBody s__law_draws) (defScope s__law_draws) .none kV0 dc0 pm0 an0 cd0 ct0
  F__law_draws := fun_mk (st := s__law_draws) l0 c0 k0
  g__law_draws := PySem.W.mg_of X G a0
  b__law_draws := (fun_mk (st := s__law_draws) l0 c0 k0).binds fun _ _ _ _ _ _ us hl => match us, hl with | [_, _], _ => rfl
  a__law_town := f1
  d__law_town := PySem.W.fnOf "_law_town" "_law_town" (defArgs s__law_town) (defBody s__law_town) (defScope s__law_town) .none kV1 dc1 pm1 an1 cd1 ct1
  F__law_town := fun_mk (st := s__law_town) l1 c1 k1
  g__law_town := PySem.W.mg_of X G a1
  b__law_town := (fun_mk (st := s__law_town) l1 c1 k1).binds fun _ _ _ _ _ _ us hl => match us, hl with | [_, _], _ => rfl
  a__law_text := f2
  d__law_text := PySem.W.fnOf "_law_text" "_law_text" (defArgs s__law_text) (defBody s__law_text) (defScope s__law_text) .none kV2 dc2 pm2 an2 cd2 ct2
  F__law_text := fun_mk (st := s__law_text) l2 c2 k2
  g__law_text := PySem.W.mg_of X G a2
  b__law_text := (fun_mk (st := s__law_text) l2 c2 k2).binds fun _ _ _ _ _ _ us hl => match us, hl with | [_], _ => rfl
  a__law_lines := f3
  d__law_lines := PySem.W.fnOf "_law_lines" "_law_lines" (defArgs s__law_lines) (defBody s__law_lines) (defScope s__law_lines) .none kV3 dc3 pm3 an3 cd3 ct3
  F__law_lines := fun_mk (st := s__law_lines) l3 c3 k3
  g__law_lines := PySem.W.mg_of X G a3
  b__law_lines := (fun_mk (st := s__law_lines) l3 c3 k3).binds fun _ _ _ _ _ _ us hl => match us, hl with | [_], _ => rfl
  a__lines_of := f4
  d__lines_of := PySem.W.fnOf "_lines_of" "_lines_of" (defArgs s__lines_of) (defBody s__lines_of) (defScope s__lines_of) .none kV4 dc4 pm4 an4 cd4 ct4
  F__lines_of := fun_mk (st := s__lines_of) l4 c4 k4
  g__lines_of := PySem.W.mg_of X G a4
  b__lines_of := (fun_mk (st := s__lines_of) l4 c4 k4).binds fun _ _ _ _ _ _ us hl => match us, hl with | [_], _ => rfl
  a__is_number := f5
  d__is_number := PySem.W.fnOf "_is_number" "_is_number" (defArgs s__is_number) (defBody s__is_number) (defScope s__is_number) .none kV5 dc5 pm5 an5 (.ref tc5) ct5
  F__is_number := fun_mk (st := s__is_number) l5 c5 k5
  g__is_number := PySem.W.mg_of X G a5
  tc__is_number := tc5
  tp__is_number := tp5
  tt__is_number := tab_mk a5 l5 rfl t5 u5
  td__is_number := rfl
  b__is_number := (fun_mk (st := s__is_number) l5 c5 k5).binds fun _ _ _ _ _ _ us hl => match us, hl with | [_], _ => rfl
  a__is_right := f6
  d__is_right := PySem.W.fnOf "_is_right" "_is_right" (defArgs s__is_right) (defBody s__is_right) (defScope s__is_right) .none kV6 dc6 pm6 an6 cd6 ct6
  F__is_right := fun_mk (st := s__is_right) l6 c6 k6
  g__is_right := PySem.W.mg_of X G a6
  b__is_right := (fun_mk (st := s__is_right) l6 c6 k6).binds fun _ _ _ _ _ _ us hl => match us, hl with | [_, _, _, _], _ => rfl
  a__read_line := f7
  d__read_line := PySem.W.fnOf "_read_line" "_read_line" (defArgs s__read_line) (defBody s__read_line) (defScope s__read_line) .none kV7 dc7 pm7 an7 cd7 ct7
  F__read_line := fun_mk (st := s__read_line) l7 c7 k7
  g__read_line := PySem.W.mg_of X G a7
  b__read_line := (fun_mk (st := s__read_line) l7 c7 k7).binds fun _ _ _ _ _ _ us hl => match us, hl with | [_, _, _, _], _ => rfl
  a__check_end := f8
  d__check_end := PySem.W.fnOf "_check_end" "_check_end" (defArgs s__check_end) (defBody s__check_end) (defScope s__check_end) .none kV8 dc8 pm8 an8 cd8 ct8
  F__check_end := fun_mk (st := s__check_end) l8 c8 k8
  g__check_end := PySem.W.mg_of X G a8
  b__check_end := (fun_mk (st := s__check_end) l8 c8 k8).binds fun _ _ _ _ _ _ us hl => match us, hl with | [_, _], _ => rfl
  a_is_whole := f9
  d_is_whole := PySem.W.fnOf "is_whole" "is_whole" (defArgs s_is_whole) (defBody s_is_whole) (defScope s_is_whole) .none kV9 dc9 pm9 an9 cd9 ct9
  F_is_whole := fun_mk (st := s_is_whole) l9 c9 k9
  g_is_whole := PySem.W.mg_of X G a9
  b_is_whole := (fun_mk (st := s_is_whole) l9 c9 k9).binds fun _ _ _ _ _ _ us hl => match us, hl with | [_], _ => rfl
  a__all_whole := f10
  d__all_whole := PySem.W.fnOf "_all_whole" "_all_whole" (defArgs s__all_whole) (defBody s__all_whole) (defScope s__all_whole) .none kV10 dc10 pm10 an10 (.ref tc10) ct10
  F__all_whole := fun_mk (st := s__all_whole) l10 c10 k10
  g__all_whole := PySem.W.mg_of X G a10
  tc__all_whole := tc10
  tp__all_whole := tp10
  tt__all_whole := tab_mk a10 l10 rfl t10 u10
  td__all_whole := rfl
  b__all_whole := (fun_mk (st := s__all_whole) l10 c10 k10).binds fun _ _ _ _ _ _ us hl => match us, hl with | [_], _ => rfl
  a__is_road := f11
  d__is_road := PySem.W.fnOf "_is_road" "_is_road" (defArgs s__is_road) (defBody s__is_road) (defScope s__is_road) .none kV11 dc11 pm11 an11 cd11 ct11
  F__is_road := fun_mk (st := s__is_road) l11 c11 k11
  g__is_road := PySem.W.mg_of X G a11
  b__is_road := (fun_mk (st := s__is_road) l11 c11 k11).binds fun _ _ _ _ _ _ us hl => match us, hl with | [_, _], _ => rfl
  a_check_town := f12
  d_check_town := PySem.W.fnOf "check_town" "check_town" (defArgs s_check_town) (defBody s_check_town) (defScope s_check_town) .none kV12 dc12 pm12 an12 cd12 ct12
  F_check_town := fun_mk (st := s_check_town) l12 c12 k12
  g_check_town := PySem.W.mg_of X G a12
  b_check_town := (fun_mk (st := s_check_town) l12 c12 k12).binds fun _ _ _ _ _ _ us hl => match us, hl with | [_], _ => rfl
  a_read_town := f13
  d_read_town := PySem.W.fnOf "read_town" "read_town" (defArgs s_read_town) (defBody s_read_town) (defScope s_read_town) .none kV13 dc13 pm13 an13 cd13 ct13
  F_read_town := fun_mk (st := s_read_town) l13 c13 k13
  g_read_town := PySem.W.mg_of X G a13
  b_read_town := (fun_mk (st := s_read_town) l13 c13 k13).binds fun _ _ _ _ _ _ us hl => match us, hl with | [_], _ => rfl
  a_write_town := f14
  d_write_town := PySem.W.fnOf "write_town" "write_town" (defArgs s_write_town) (defBody s_write_town) (defScope s_write_town) .none kV14 dc14 pm14 an14 cd14 ct14
  F_write_town := fun_mk (st := s_write_town) l14 c14 k14
  g_write_town := PySem.W.mg_of X G a14
  b_write_town := (fun_mk (st := s_write_town) l14 c14 k14).binds fun _ _ _ _ _ _ us hl => match us, hl with | [_], _ => rfl
  a_law := f15
  d_law := PySem.W.fnOf "law" "law" (defArgs s_law) (defBody s_law) (defScope s_law) .none kV15 dc15 pm15 an15 cd15 ct15
  F_law := fun_mk (st := s_law) l15 c15 k15
  g_law := PySem.W.mg_of X G a15
  b_law := (fun_mk (st := s_law) l15 c15 k15).binds fun _ _ _ _ _ _ us hl => match us, hl with | [_], _ => rfl
  m_isinstance := PySem.W.mg_none_of X G z0
  m_int := PySem.W.mg_none_of X G z1
  m_bool := PySem.W.mg_none_of X G z2
  m_enumerate := PySem.W.mg_none_of X G z3
  m_all := PySem.W.mg_none_of X G z4
  m_tuple := PySem.W.mg_none_of X G z5
  m_len := PySem.W.mg_none_of X G z6
  m_range := PySem.W.mg_none_of X G z7
  m_str := PySem.W.mg_none_of X G z8
  m_repr := PySem.W.mg_none_of X G z9
  c_MOST_PLACES := ⟨_, PySem.W.mg_of X G qc0⟩
  c_MOST_LENGTH := ⟨_, PySem.W.mg_of X G qc1⟩
  c_MOST_DIGITS := ⟨_, PySem.W.mg_of X G qc2⟩
  c_DIGITS := ⟨_, PySem.W.mg_of X G qc3⟩
  c := ⟨C_BadSize, C_BadRoad, C_BadText⟩
  gc_BadSize := PySem.W.mg_of X G ac_BadSize
  gc_BadRoad := PySem.W.mg_of X G ac_BadRoad
  gc_BadText := PySem.W.mg_of X G ac_BadText
  e_BadSize := ee_BadSize
  e_BadRoad := ee_BadRoad
  e_BadText := ee_BadText
  ty_BadSize := ty_BadSize
  x_BadSize := x_BadSize
  kc_BadSize := kc_BadSize
  T_BadRoad := ⟨⟨_, _, _, _, _, _, _, _, _, _, _, _, _, _, _, xl_BadRoad, rv_BadRoad⟩, sa_BadRoad, su_BadRoad, ty_BadRoad, kc_BadRoad⟩
  fI_BadRoad := fI_BadRoad
  dI_BadRoad := PySem.W.fnOf "__init__" "BadRoad.__init__" (defArgs sI_BadRoad) (defBody sI_BadRoad) (defScope sI_BadRoad) .none kVI_BadRoad dcI_BadRoad pmI_BadRoad anI_BadRoad cdI_BadRoad ctI_BadRoad
  FI_BadRoad := fun_mk (st := sI_BadRoad) lI_BadRoad cI_BadRoad kI_BadRoad
  iC_BadRoad := iC_BadRoad
  tI_BadRoad := tI_BadRoad
  bI_BadRoad := (fun_mk (st := sI_BadRoad) lI_BadRoad cI_BadRoad kI_BadRoad).binds fun _ _ _ _ _ _ us hl => match us, hl with | [_, _], _ => rfl
  no_BadRoad_at := no_BadRoad_at
  T_BadText := ⟨⟨_, _, _, _, _, _, _, _, _, _, _, _, _, _, _, xl_BadText, rv_BadText⟩, sa_BadText, su_BadText, ty_BadText, kc_BadText⟩
  fI_BadText := fI_BadText
  dI_BadText := PySem.W.fnOf "__init__" "BadText.__init__" (defArgs sI_BadText) (defBody sI_BadText) (defScope sI_BadText) .none kVI_BadText dcI_BadText pmI_BadText anI_BadText cdI_BadText ctI_BadText
  FI_BadText := fun_mk (st := sI_BadText) lI_BadText cI_BadText kI_BadText
  iC_BadText := iC_BadText
  tI_BadText := tI_BadText
  bI_BadText := (fun_mk (st := sI_BadText) lI_BadText cI_BadText kI_BadText).binds fun _ _ _ _ _ _ us hl => match us, hl with | [_, _, _], _ => rfl
  no_BadText_line := no_BadText_line
  no_BadText_column := no_BadText_column
  }
theorem all_mk {l : PySem.W.OpenLaw} {w : World} {K : PySem.W.Frag} {h : Heap} {mg : Str → Option Value} {fa : Addr} (X : K.In h) (G : h.Ns mainGlobals mg) (hfa : mg "law" = some (.ref fa))
    {f0 : Addr} {od0 an0 : Option Addr} {sl0 : Array (Option Value)} {oc0 kV0 dc0 pm0 cd0 ct0 : Value}
    {f1 : Addr} {od1 an1 : Option Addr} {sl1 : Array (Option Value)} {oc1 kV1 dc1 pm1 cd1 ct1 : Value}
    {f2 : Addr} {od2 an2 : Option Addr} {sl2 : Array (Option Value)} {oc2 kV2 dc2 pm2 cd2 ct2 : Value}
    {f3 : Addr} {od3 an3 : Option Addr} {sl3 : Array (Option Value)} {oc3 kV3 dc3 pm3 cd3 ct3 : Value}
    {f4 : Addr} {od4 an4 : Option Addr} {sl4 : Array (Option Value)} {oc4 kV4 dc4 pm4 cd4 ct4 : Value}
    {f5 : Addr} {od5 an5 : Option Addr} {sl5 : Array (Option Value)} {oc5 kV5 dc5 pm5 ct5 : Value}
    {tc5 tp5 : Addr} {to5 : Value} {td5 : Option Addr} {tv5 : Array Value} {ts5 : Array (Option Value)}
    {f6 : Addr} {od6 an6 : Option Addr} {sl6 : Array (Option Value)} {oc6 kV6 dc6 pm6 cd6 ct6 : Value}
    {f7 : Addr} {od7 an7 : Option Addr} {sl7 : Array (Option Value)} {oc7 kV7 dc7 pm7 cd7 ct7 : Value}
    {f8 : Addr} {od8 an8 : Option Addr} {sl8 : Array (Option Value)} {oc8 kV8 dc8 pm8 cd8 ct8 : Value}
    {f9 : Addr} {od9 an9 : Option Addr} {sl9 : Array (Option Value)} {oc9 kV9 dc9 pm9 cd9 ct9 : Value}
    {f10 : Addr} {od10 an10 : Option Addr} {sl10 : Array (Option Value)} {oc10 kV10 dc10 pm10 ct10 : Value}
    {tc10 tp10 : Addr} {to10 : Value} {td10 : Option Addr} {tv10 : Array Value} {ts10 : Array (Option Value)}
    {f11 : Addr} {od11 an11 : Option Addr} {sl11 : Array (Option Value)} {oc11 kV11 dc11 pm11 cd11 ct11 : Value}
    {f12 : Addr} {od12 an12 : Option Addr} {sl12 : Array (Option Value)} {oc12 kV12 dc12 pm12 cd12 ct12 : Value}
    {f13 : Addr} {od13 an13 : Option Addr} {sl13 : Array (Option Value)} {oc13 kV13 dc13 pm13 cd13 ct13 : Value}
    {f14 : Addr} {od14 an14 : Option Addr} {sl14 : Array (Option Value)} {oc14 kV14 dc14 pm14 cd14 ct14 : Value}
    {f15 : Addr} {od15 an15 : Option Addr} {sl15 : Array (Option Value)} {oc15 kV15 dc15 pm15 cd15 ct15 : Value}
    {qt0 : Tok}
    {qt1 : Tok}
    {qt2 : Tok}
    {qt3 : Tok}
    {C_BadSize : Addr}
    {C_BadRoad : Addr}
    {C_BadText : Addr}
    {cd_BadSize : ClassData}
    {cd_BadRoad : ClassData}
    {cd_BadText : ClassData}
    {nm_BadRoad q_BadRoad : Str} {N_BadRoad : Addr} {bs_BadRoad bm_BadRoad sub_BadRoad : List Value} {sn_BadRoad : List Str} {ab_BadRoad : Bool} {col_BadRoad : Option Bool} {dd_BadRoad : Option Addr} {k0_BadRoad k1_BadRoad k2_BadRoad k3_BadRoad k5_BadRoad : Option Value}
    {fI_BadRoad : Addr} {odI_BadRoad anI_BadRoad : Option Addr} {slI_BadRoad : Array (Option Value)} {ocI_BadRoad kVI_BadRoad dcI_BadRoad pmI_BadRoad cdI_BadRoad ctI_BadRoad : Value}
    {nm_BadText q_BadText : Str} {N_BadText : Addr} {bs_BadText bm_BadText sub_BadText : List Value} {sn_BadText : List Str} {ab_BadText : Bool} {col_BadText : Option Bool} {dd_BadText : Option Addr} {k0_BadText k1_BadText k2_BadText k3_BadText k5_BadText : Option Value}
    {fI_BadText : Addr} {odI_BadText anI_BadText : Option Addr} {slI_BadText : Array (Option Value)} {ocI_BadText kVI_BadText dcI_BadText pmI_BadText cdI_BadText ctI_BadText : Value}
    (a0 : PySem.W.nsIn K mainGlobals "_law_draws" = some (some (.ref f0))) (l0 : K.lookup f0 = some ⟨oc0, od0, .func (PySem.W.fnOf "_law_draws" "_law_draws" (defArgs s__law_draws) (defBody s__law_draws) (defScope s__law_draws) .none kV0 dc0 pm0 an0 cd0 ct0), sl0⟩) (c0 : PySem.W.codeIn K cd0 "_law_draws" = true) (k0 : PySem.W.keepIn K (.ref f0) = true)
    (a1 : PySem.W.nsIn K mainGlobals "_law_town" = some (some (.ref f1))) (l1 : K.lookup f1 = some ⟨oc1, od1, .func (PySem.W.fnOf "_law_town" "_law_town" (defArgs s__law_town) (defBody s__law_town) (defScope s__law_town) .none kV1 dc1 pm1 an1 cd1 ct1), sl1⟩) (c1 : PySem.W.codeIn K cd1 "_law_town" = true) (k1 : PySem.W.keepIn K (.ref f1) = true)
    (a2 : PySem.W.nsIn K mainGlobals "_law_text" = some (some (.ref f2))) (l2 : K.lookup f2 = some ⟨oc2, od2, .func (PySem.W.fnOf "_law_text" "_law_text" (defArgs s__law_text) (defBody s__law_text) (defScope s__law_text) .none kV2 dc2 pm2 an2 cd2 ct2), sl2⟩) (c2 : PySem.W.codeIn K cd2 "_law_text" = true) (k2 : PySem.W.keepIn K (.ref f2) = true)
    (a3 : PySem.W.nsIn K mainGlobals "_law_lines" = some (some (.ref f3))) (l3 : K.lookup f3 = some ⟨oc3, od3, .func (PySem.W.fnOf "_law_lines" "_law_lines" (defArgs s__law_lines) (defBody s__law_lines) (defScope s__law_lines) .none kV3 dc3 pm3 an3 cd3 ct3), sl3⟩) (c3 : PySem.W.codeIn K cd3 "_law_lines" = true) (k3 : PySem.W.keepIn K (.ref f3) = true)
    (a4 : PySem.W.nsIn K mainGlobals "_lines_of" = some (some (.ref f4))) (l4 : K.lookup f4 = some ⟨oc4, od4, .func (PySem.W.fnOf "_lines_of" "_lines_of" (defArgs s__lines_of) (defBody s__lines_of) (defScope s__lines_of) .none kV4 dc4 pm4 an4 cd4 ct4), sl4⟩) (c4 : PySem.W.codeIn K cd4 "_lines_of" = true) (k4 : PySem.W.keepIn K (.ref f4) = true)
    (a5 : PySem.W.nsIn K mainGlobals "_is_number" = some (some (.ref f5))) (l5 : K.lookup f5 = some ⟨oc5, od5, .func (PySem.W.fnOf "_is_number" "_is_number" (defArgs s__is_number) (defBody s__is_number) (defScope s__is_number) .none kV5 dc5 pm5 an5 (.ref tc5) ct5), sl5⟩) (c5 : PySem.W.codeIn K (.ref tc5) "_is_number" = true) (k5 : PySem.W.keepIn K (.ref f5) = true)
    (t5 : K.lookup tc5 = some ⟨to5, td5, .fields tv5, ts5⟩) (u5 : tv5[11]? = some (.ref tp5))
    (a6 : PySem.W.nsIn K mainGlobals "_is_right" = some (some (.ref f6))) (l6 : K.lookup f6 = some ⟨oc6, od6, .func (PySem.W.fnOf "_is_right" "_is_right" (defArgs s__is_right) (defBody s__is_right) (defScope s__is_right) .none kV6 dc6 pm6 an6 cd6 ct6), sl6⟩) (c6 : PySem.W.codeIn K cd6 "_is_right" = true) (k6 : PySem.W.keepIn K (.ref f6) = true)
    (a7 : PySem.W.nsIn K mainGlobals "_read_line" = some (some (.ref f7))) (l7 : K.lookup f7 = some ⟨oc7, od7, .func (PySem.W.fnOf "_read_line" "_read_line" (defArgs s__read_line) (defBody s__read_line) (defScope s__read_line) .none kV7 dc7 pm7 an7 cd7 ct7), sl7⟩) (c7 : PySem.W.codeIn K cd7 "_read_line" = true) (k7 : PySem.W.keepIn K (.ref f7) = true)
    (a8 : PySem.W.nsIn K mainGlobals "_check_end" = some (some (.ref f8))) (l8 : K.lookup f8 = some ⟨oc8, od8, .func (PySem.W.fnOf "_check_end" "_check_end" (defArgs s__check_end) (defBody s__check_end) (defScope s__check_end) .none kV8 dc8 pm8 an8 cd8 ct8), sl8⟩) (c8 : PySem.W.codeIn K cd8 "_check_end" = true) (k8 : PySem.W.keepIn K (.ref f8) = true)
    (a9 : PySem.W.nsIn K mainGlobals "is_whole" = some (some (.ref f9))) (l9 : K.lookup f9 = some ⟨oc9, od9, .func (PySem.W.fnOf "is_whole" "is_whole" (defArgs s_is_whole) (defBody s_is_whole) (defScope s_is_whole) .none kV9 dc9 pm9 an9 cd9 ct9), sl9⟩) (c9 : PySem.W.codeIn K cd9 "is_whole" = true) (k9 : PySem.W.keepIn K (.ref f9) = true)
    (a10 : PySem.W.nsIn K mainGlobals "_all_whole" = some (some (.ref f10))) (l10 : K.lookup f10 = some ⟨oc10, od10, .func (PySem.W.fnOf "_all_whole" "_all_whole" (defArgs s__all_whole) (defBody s__all_whole) (defScope s__all_whole) .none kV10 dc10 pm10 an10 (.ref tc10) ct10), sl10⟩) (c10 : PySem.W.codeIn K (.ref tc10) "_all_whole" = true) (k10 : PySem.W.keepIn K (.ref f10) = true)
    (t10 : K.lookup tc10 = some ⟨to10, td10, .fields tv10, ts10⟩) (u10 : tv10[11]? = some (.ref tp10))
    (a11 : PySem.W.nsIn K mainGlobals "_is_road" = some (some (.ref f11))) (l11 : K.lookup f11 = some ⟨oc11, od11, .func (PySem.W.fnOf "_is_road" "_is_road" (defArgs s__is_road) (defBody s__is_road) (defScope s__is_road) .none kV11 dc11 pm11 an11 cd11 ct11), sl11⟩) (c11 : PySem.W.codeIn K cd11 "_is_road" = true) (k11 : PySem.W.keepIn K (.ref f11) = true)
    (a12 : PySem.W.nsIn K mainGlobals "check_town" = some (some (.ref f12))) (l12 : K.lookup f12 = some ⟨oc12, od12, .func (PySem.W.fnOf "check_town" "check_town" (defArgs s_check_town) (defBody s_check_town) (defScope s_check_town) .none kV12 dc12 pm12 an12 cd12 ct12), sl12⟩) (c12 : PySem.W.codeIn K cd12 "check_town" = true) (k12 : PySem.W.keepIn K (.ref f12) = true)
    (a13 : PySem.W.nsIn K mainGlobals "read_town" = some (some (.ref f13))) (l13 : K.lookup f13 = some ⟨oc13, od13, .func (PySem.W.fnOf "read_town" "read_town" (defArgs s_read_town) (defBody s_read_town) (defScope s_read_town) .none kV13 dc13 pm13 an13 cd13 ct13), sl13⟩) (c13 : PySem.W.codeIn K cd13 "read_town" = true) (k13 : PySem.W.keepIn K (.ref f13) = true)
    (a14 : PySem.W.nsIn K mainGlobals "write_town" = some (some (.ref f14))) (l14 : K.lookup f14 = some ⟨oc14, od14, .func (PySem.W.fnOf "write_town" "write_town" (defArgs s_write_town) (defBody s_write_town) (defScope s_write_town) .none kV14 dc14 pm14 an14 cd14 ct14), sl14⟩) (c14 : PySem.W.codeIn K cd14 "write_town" = true) (k14 : PySem.W.keepIn K (.ref f14) = true)
    (a15 : PySem.W.nsIn K mainGlobals "law" = some (some (.ref f15))) (l15 : K.lookup f15 = some ⟨oc15, od15, .func (PySem.W.fnOf "law" "law" (defArgs s_law) (defBody s_law) (defScope s_law) .none kV15 dc15 pm15 an15 cd15 ct15), sl15⟩) (c15 : PySem.W.codeIn K cd15 "law" = true) (k15 : PySem.W.keepIn K (.ref f15) = true)
    (qc0 : PySem.W.nsIn K mainGlobals "MOST_PLACES" = some (some (.int 7 qt0)))
    (qc1 : PySem.W.nsIn K mainGlobals "MOST_LENGTH" = some (some (.int 9 qt1)))
    (qc2 : PySem.W.nsIn K mainGlobals "MOST_DIGITS" = some (some (.int 3 qt2)))
    (qc3 : PySem.W.nsIn K mainGlobals "DIGITS" = some (some (.str "0123456789" qt3)))
    (ac_BadSize : PySem.W.nsIn K mainGlobals "BadSize" = some (some (.ref C_BadSize)))
    (ac_BadRoad : PySem.W.nsIn K mainGlobals "BadRoad" = some (some (.ref C_BadRoad)))
    (ac_BadText : PySem.W.nsIn K mainGlobals "BadText" = some (some (.ref C_BadText)))
    (ge : PySem.W.specialIn K (.builtin "object.__class__") "__get__" = some (some (.builtin "getset_descriptor.__get__")))
    (ta : PySem.W.takesIn K (.builtin "object.__class__") = some true)
    (cl_BadSize : PySem.W.clsIn K C_BadSize = some cd_BadSize)
    (ga_BadSize : PySem.W.findIn K (.ref C_BadSize) "__getattribute__" = some (some (.builtin "BaseException.__getattribute__")))
    (gg_BadSize : PySem.W.findIn K (.ref C_BadSize) "__getattr__" = some none)
    (su_BadSize : PySem.W.subIn K (.ref C_BadSize) (.type "BaseException") = some true)
    (ca_BadSize : PySem.W.findIn K (.ref C_BadSize) "__class__" = some (some (.builtin "object.__class__")))
    (ob_BadSize : PySem.W.mroIn K C_BadSize (.type "object") = some true)
    (hd_BadSize : PySem.W.hasDictIn K C_BadSize = true)
    (kc_BadSize : PySem.W.keepIn K (.ref C_BadSize) = true)
    (cl_BadRoad : PySem.W.clsIn K C_BadRoad = some cd_BadRoad)
    (ga_BadRoad : PySem.W.findIn K (.ref C_BadRoad) "__getattribute__" = some (some (.builtin "BaseException.__getattribute__")))
    (gg_BadRoad : PySem.W.findIn K (.ref C_BadRoad) "__getattr__" = some none)
    (su_BadRoad : PySem.W.subIn K (.ref C_BadRoad) (.type "BaseException") = some true)
    (ca_BadRoad : PySem.W.findIn K (.ref C_BadRoad) "__class__" = some (some (.builtin "object.__class__")))
    (ob_BadRoad : PySem.W.mroIn K C_BadRoad (.type "object") = some true)
    (hd_BadRoad : PySem.W.hasDictIn K C_BadRoad = true)
    (kc_BadRoad : PySem.W.keepIn K (.ref C_BadRoad) = true)
    (cl_BadText : PySem.W.clsIn K C_BadText = some cd_BadText)
    (ga_BadText : PySem.W.findIn K (.ref C_BadText) "__getattribute__" = some (some (.builtin "BaseException.__getattribute__")))
    (gg_BadText : PySem.W.findIn K (.ref C_BadText) "__getattr__" = some none)
    (su_BadText : PySem.W.subIn K (.ref C_BadText) (.type "BaseException") = some true)
    (ca_BadText : PySem.W.findIn K (.ref C_BadText) "__class__" = some (some (.builtin "object.__class__")))
    (ob_BadText : PySem.W.mroIn K C_BadText (.type "object") = some true)
    (hd_BadText : PySem.W.hasDictIn K C_BadText = true)
    (kc_BadText : PySem.W.keepIn K (.ref C_BadText) = true)
    (ty_BadSize : PySem.W.typeIn K (.ref C_BadSize) = some (.type "type"))
    (x_BadSize : PySem.W.excIn K C_BadSize [.type "ValueError", .type "Exception", .type "BaseException", .type "object"] "ValueError.__new__" = true)
    (xl_BadRoad : K.lookup C_BadRoad = some (excClassObj nm_BadRoad q_BadRoad C_BadRoad N_BadRoad bs_BadRoad bm_BadRoad true sn_BadRoad sub_BadRoad ab_BadRoad col_BadRoad dd_BadRoad k0_BadRoad k1_BadRoad k2_BadRoad k3_BadRoad k5_BadRoad "ValueError.__new__"))
    (rv_BadRoad : PySem.HandSPX.refsVE bm_BadRoad = true)
    (sa_BadRoad : PySem.W.findIn K (.ref C_BadRoad) "__setattr__" = some (some (.builtin "object.__setattr__")))
    (ty_BadRoad : PySem.W.typeIn K (.ref C_BadRoad) = some (.type "type"))
    (iC_BadRoad : PySem.W.findIn K (.ref C_BadRoad) "__init__" = some (some (.ref fI_BadRoad)))
    (tI_BadRoad : PySem.W.typeIn K (.ref fI_BadRoad) = some (.type "function"))
    (lI_BadRoad : K.lookup fI_BadRoad = some ⟨ocI_BadRoad, odI_BadRoad, .func (PySem.W.fnOf "__init__" "BadRoad.__init__" (defArgs sI_BadRoad) (defBody sI_BadRoad) (defScope sI_BadRoad) .none kVI_BadRoad dcI_BadRoad pmI_BadRoad anI_BadRoad cdI_BadRoad ctI_BadRoad), slI_BadRoad⟩)
    (cI_BadRoad : PySem.W.codeIn K cdI_BadRoad "BadRoad.__init__" = true)
    (kI_BadRoad : PySem.W.keepIn K (.ref fI_BadRoad) = true)
    (no_BadRoad_at : PySem.W.findIn K (.ref C_BadRoad) "at" = some none)
    (xl_BadText : K.lookup C_BadText = some (excClassObj nm_BadText q_BadText C_BadText N_BadText bs_BadText bm_BadText true sn_BadText sub_BadText ab_BadText col_BadText dd_BadText k0_BadText k1_BadText k2_BadText k3_BadText k5_BadText "ValueError.__new__"))
    (rv_BadText : PySem.HandSPX.refsVE bm_BadText = true)
    (sa_BadText : PySem.W.findIn K (.ref C_BadText) "__setattr__" = some (some (.builtin "object.__setattr__")))
    (ty_BadText : PySem.W.typeIn K (.ref C_BadText) = some (.type "type"))
    (iC_BadText : PySem.W.findIn K (.ref C_BadText) "__init__" = some (some (.ref fI_BadText)))
    (tI_BadText : PySem.W.typeIn K (.ref fI_BadText) = some (.type "function"))
    (lI_BadText : K.lookup fI_BadText = some ⟨ocI_BadText, odI_BadText, .func (PySem.W.fnOf "__init__" "BadText.__init__" (defArgs sI_BadText) (defBody sI_BadText) (defScope sI_BadText) .none kVI_BadText dcI_BadText pmI_BadText anI_BadText cdI_BadText ctI_BadText), slI_BadText⟩)
    (cI_BadText : PySem.W.codeIn K cdI_BadText "BadText.__init__" = true)
    (kI_BadText : PySem.W.keepIn K (.ref fI_BadText) = true)
    (no_BadText_line : PySem.W.findIn K (.ref C_BadText) "line" = some none)
    (no_BadText_column : PySem.W.findIn K (.ref C_BadText) "column" = some none)
    (z0 : PySem.W.nsIn K mainGlobals "isinstance" = some none) (z1 : PySem.W.nsIn K mainGlobals "int" = some none) (z2 : PySem.W.nsIn K mainGlobals "bool" = some none) (z3 : PySem.W.nsIn K mainGlobals "enumerate" = some none) (z4 : PySem.W.nsIn K mainGlobals "all" = some none) (z5 : PySem.W.nsIn K mainGlobals "tuple" = some none) (z6 : PySem.W.nsIn K mainGlobals "len" = some none) (z7 : PySem.W.nsIn K mainGlobals "range" = some none) (z8 : PySem.W.nsIn K mainGlobals "str" = some none) (z9 : PySem.W.nsIn K mainGlobals "repr" = some none) :
    ∃ fd : FuncData, (∀ (s : Shared) (v : Value), BindsTo s fd ⟨[v], []⟩ [("script", v)]) ∧ ∀ base : Heap, K.In base → base.Ns mainGlobals mg → TabsB K base mg → FnG l.prog w K mg base 7 fa fd ["script"] S_law_k11 := by
  have B := bn_mk X G a0 l0 c0 k0 a1 l1 c1 k1 a2 l2 c2 k2 a3 l3 c3 k3 a4 l4 c4 k4 a5 l5 c5 k5 t5 u5 a6 l6 c6 k6 a7 l7 c7 k7 a8 l8 c8 k8 a9 l9 c9 k9 a10 l10 c10 k10 t10 u10 a11 l11 c11 k11 a12 l12 c12 k12 a13 l13 c13 k13 a14 l14 c14 k14 a15 l15 c15 k15 qc0 qc1 qc2 qc3 ac_BadSize ac_BadRoad ac_BadText ge ta cl_BadSize ga_BadSize gg_BadSize su_BadSize ca_BadSize ob_BadSize hd_BadSize kc_BadSize cl_BadRoad ga_BadRoad gg_BadRoad su_BadRoad ca_BadRoad ob_BadRoad hd_BadRoad kc_BadRoad cl_BadText ga_BadText gg_BadText su_BadText ca_BadText ob_BadText hd_BadText kc_BadText ty_BadSize x_BadSize xl_BadRoad rv_BadRoad sa_BadRoad ty_BadRoad iC_BadRoad tI_BadRoad lI_BadRoad cI_BadRoad kI_BadRoad no_BadRoad_at xl_BadText rv_BadText sa_BadText ty_BadText iC_BadText tI_BadText lI_BadText cI_BadText kI_BadText no_BadText_line no_BadText_column z0 z1 z2 z3 z4 z5 z6 z7 z8 z9
  have e := hfa.symm.trans (PySem.W.mg_of X G a15)
  cases e
  refine ⟨_, fun s v => .of_eq rfl, fun base _ _ TB => ok_law TB (bn_mk X G a0 l0 c0 k0 a1 l1 c1 k1 a2 l2 c2 k2 a3 l3 c3 k3 a4 l4 c4 k4 a5 l5 c5 k5 t5 u5 a6 l6 c6 k6 a7 l7 c7 k7 a8 l8 c8 k8 a9 l9 c9 k9 a10 l10 c10 k10 t10 u10 a11 l11 c11 k11 a12 l12 c12 k12 a13 l13 c13 k13 a14 l14 c14 k14 a15 l15 c15 k15 qc0 qc1 qc2 qc3 ac_BadSize ac_BadRoad ac_BadText ge ta cl_BadSize ga_BadSize gg_BadSize su_BadSize ca_BadSize ob_BadSize hd_BadSize kc_BadSize cl_BadRoad ga_BadRoad gg_BadRoad su_BadRoad ca_BadRoad ob_BadRoad hd_BadRoad kc_BadRoad cl_BadText ga_BadText gg_BadText su_BadText ca_BadText ob_BadText hd_BadText kc_BadText ty_BadSize x_BadSize xl_BadRoad rv_BadRoad sa_BadRoad ty_BadRoad iC_BadRoad tI_BadRoad lI_BadRoad cI_BadRoad kI_BadRoad no_BadRoad_at xl_BadText rv_BadText sa_BadText ty_BadText iC_BadText tI_BadText lI_BadText cI_BadText kI_BadText no_BadText_line no_BadText_column z0 z1 z2 z3 z4 z5 z6 z7 z8 z9)⟩
end Gk11
namespace Dn
open PySem PySem.Spec L2
abbrev Rd := Int × Int × Int
abbrev cRd (r : Rd) : PyData := .tuple [.int r.1, .int r.2.1, .int r.2.2]
abbrev cTown (p : Int) (rs : List Rd) : PyData := .tuple [.int p, .list (rs.map cRd)]
def RdLt (a b : Rd) : Prop := a.1 < b.1 ∨ (a.1 = b.1 ∧ a.2.1 < b.2.1)
structure TownOk (p : Int) (rs : List Rd) : Prop where
  p1 : 1 ≤ p
  road : ∀ r ∈ rs, 0 ≤ r.1 ∧ r.1 < r.2.1 ∧ r.2.1 < p ∧ 1 ≤ r.2.2 ∧ r.2.2 ≤ 9
  asc : rs.Pairwise RdLt
def pairsTo (p : Nat) : Nat → Nat
  | 0 => 0
  | a + 1 => pairsTo p a + (p - 1 - a)
structure RdsTo (p a b : Int) (rs : List Rd) : Prop where
  road : ∀ r ∈ rs, 0 ≤ r.1 ∧ r.1 < r.2.1 ∧ r.2.1 < p ∧ 1 ≤ r.2.2 ∧ r.2.2 ≤ 9
  lt : ∀ r ∈ rs, r.1 < a ∨ (r.1 = a ∧ r.2.1 < b)
  asc : rs.Pairwise RdLt
theorem RdsTo.next {p a b l : Int} {rs : List Rd} (h : RdsTo p a b rs) (h0 : 0 ≤ a) (h1 : a < b) (h2 : b < p) (h3 : 1 ≤ l) (h4 : l ≤ 9) : RdsTo p a (b + 1) (rs ++ [(a, b, l)]) := by
  refine ⟨fun r hr => ?_, fun r hr => ?_, ?_⟩
  · rcases List.mem_append.mp hr with hr | hr
    · exact h.road r hr
    · rw [List.mem_singleton.mp hr]; exact ⟨h0, h1, h2, h3, h4⟩
  · rcases List.mem_append.mp hr with hr | hr
    · rcases h.lt r hr with z | ⟨z, y⟩
      · exact .inl z
      · exact .inr ⟨z, by omega⟩
    · rw [List.mem_singleton.mp hr]; exact .inr ⟨rfl, by show b < b + 1; omega⟩
  · refine List.pairwise_append.mpr ⟨h.asc, List.pairwise_singleton _ _, fun x hx y hy => ?_⟩
    rw [List.mem_singleton.mp hy]; exact h.lt x hx
theorem RdsTo.skip {p a b : Int} {rs : List Rd} (h : RdsTo p a b rs) : RdsTo p a (b + 1) rs :=
  ⟨h.road, fun r hr => (h.lt r hr).imp_right fun z => ⟨z.1, by omega⟩, h.asc⟩
theorem RdsTo.up {p a b : Int} {rs : List Rd} (h : RdsTo p a b rs) : RdsTo p (a + 1) 0 rs :=
  ⟨h.road, fun r hr => .inl (by rcases h.lt r hr with z | ⟨z, _⟩ <;> omega), h.asc⟩
theorem RdsTo.zero {p a b b' : Int} {rs : List Rd} (h : RdsTo p a b rs) (hb : b ≤ b') : RdsTo p a b' rs :=
  ⟨h.road, fun r hr => (h.lt r hr).imp_right fun z => ⟨z.1, by omega⟩, h.asc⟩
abbrev twE (ds : List Int) (most p : Int) (rs : List Rd) (k : Int) (x5 : Option Sl) : Dn.Env := [some (.sh false (.list (ds.map .int))), some (.sh true (.int most)), some (.sh true (.int p)), some (.ow true (rs.map cRd)), some (.sh true (.int k)), x5, none]
theorem town_turn (ds : List Int) (most p : Int) (rs : List Rd) (k a b : Int) (hk : 0 ≤ k ∧ k < ds.length) (hd : ∀ d ∈ ds, 0 ≤ d ∧ d < 1000) (h0 : 0 ≤ a) (h1 : a < b) (h2 : b < p) (h : RdsTo p a b rs) (hl : rs.length < 1000) :
    ∃ rs', (gN 6 (true, .int b) (twE ds most p rs k (some (.sh true (.int a))))).bind l1_law_town = .ok (.nx (twE ds most p rs' (k + 1) (some (.sh true (.int a))))) ∧ RdsTo p a (b + 1) rs' ∧ rs'.length ≤ rs.length + 1 := by
  have hv : 0 ≤ iat ds k ∧ iat ds k < 1000 := hd _ (iat_mem hk)
  rw [turn_eq]
  unfold l1_law_town
  by_cases c : iat ds k % 5 < 3
  · by_cases c2 : iat ds k / 45 % 2 = 0
    · refine ⟨rs ++ [(a, b, 1 + iat ds k / 5 % 3)], ?_, h.next h0 h1 h2 (by omega) (by omega), by simp⟩
      simp (disch := omega) [c2]
    · refine ⟨rs ++ [(a, b, 1 + iat ds k / 5 % 9)], ?_, h.next h0 h1 h2 (by omega) (by omega), by simp⟩
      simp (disch := omega) [c2]
  · refine ⟨rs, ?_, h.skip, by omega⟩
    simp (disch := omega)
theorem town_row (ds : List Int) (most p : Int) (k0 : Int) (a : Nat) (pn : Nat) (hp : p = pn) (ha : a < pn) (hk0 : 0 ≤ k0) (hk : k0 + (pn - 1 - a : Nat) ≤ ds.length) (hd : ∀ d ∈ ds, 0 ≤ d ∧ d < 1000) (rs : List Rd) (h : RdsTo p a 0 rs) (hl : rs.length + 1 ≤ k0) (hdl : ds.length ≤ 900) (hpn : pn ≤ 900) :
    ∃ rs', (gN 5 (true, .int (a : Int)) (twE ds most p rs k0 none)).bind l2_law_town = .ok (.nx (twE ds most p rs' (k0 + (pn - 1 - a : Nat)) none)) ∧ RdsTo p (a + 1) 0 rs' ∧ (rs'.length : Int) + 1 ≤ k0 + (pn - 1 - a : Nat) := by
  rw [turn_eq]
  unfold l2_law_town
  obtain ⟨e', ⟨rs', hr, he', hl'⟩, hf⟩ := fLoop_inv (g := gN 6) (body := l1_law_town) (ys := List.range (pn - 1 - a)) (c := fun (x : Nat) => .int ((a : Int) + 1 + (x : Int))) (n := true) (e := twE ds most p rs k0 (some (.sh true (.int a))))
    (fun i e => ∃ rs', RdsTo p a (a + 1 + i) rs' ∧ e = twE ds most p rs' (k0 + i) (some (.sh true (.int a))) ∧ (rs'.length : Int) + 1 ≤ k0 + i) ⟨rs, h.zero (by omega), by simp, by simpa using hl⟩ fun i y e hy ⟨rs1, h1, he, hl1⟩ => by
      obtain ⟨hi, rfl⟩ := range_at hy
      subst he
      obtain ⟨rs2, h2, h3, h4⟩ := town_turn ds most p rs1 (k0 + y) a (a + 1 + y) (by omega) hd (by omega) (by omega) (by omega) h1 (by omega)
      refine ⟨_, h2, rs2, ?_, ?_, ?_⟩
      · rw [show ((a : Int) + 1 + ((y + 1 : Nat) : Int)) = a + 1 + y + 1 by omega]; exact h3
      · rw [show (k0 + ((y + 1 : Nat) : Int)) = k0 + y + 1 by omega]
      · omega
  have hsz : ((p : Int) - (a + 1)).toNat = pn - 1 - a := by omega
  refine ⟨rs', ?_, hr.up, by simpa using hl'⟩
  simp (disch := omega) [hsz]
  refine (cL_ok hf).trans ?_
  simp [he']
theorem town_pairs : ∀ pn, pn ≤ 7 → ∀ a, a < pn → 1 + pairsTo pn (a + 1) ≤ 22 := by decide
theorem town_ok (ds : List Int) (most : Int) (hd : ∀ d ∈ ds, 0 ≤ d ∧ d < 1000) (hl : 22 ≤ ds.length ∧ ds.length ≤ 900) (hm : 1 ≤ most ∧ most ≤ 7) :
    ∃ p rs, S_law_town [.list (ds.map .int), .int most] = .ok (.sh true (cTown p rs)) ∧ TownOk p rs ∧ p ≤ most ∧ rs.length ≤ 21 := by
  have hm0 : 0 ≤ iat ds 0 % most ∧ iat ds 0 % most < most := ⟨Int.emod_nonneg _ (by omega), Int.emod_lt_of_pos _ (by omega)⟩
  obtain ⟨p, hp⟩ : ∃ p, p = 1 + iat ds 0 % most := ⟨_, rfl⟩
  obtain ⟨pn, hpn⟩ : ∃ pn : Nat, p = pn := ⟨p.toNat, by omega⟩
  have hpm : 1 ≤ pn ∧ pn ≤ 7 := by omega
  obtain ⟨e', ⟨rs', hr, he', hl'⟩, hf⟩ := fLoop_inv (g := gN 5) (body := l2_law_town) (ys := List.range pn) (c := fun (x : Nat) => .int (x : Int)) (n := true) (e := twE ds most p [] 1 none)
    (fun i e => ∃ rs', RdsTo p i 0 rs' ∧ e = twE ds most p rs' (1 + pairsTo pn i) none ∧ (rs'.length : Int) + 1 ≤ 1 + pairsTo pn i) ⟨[], ⟨by simp, by simp, .nil⟩, rfl, by simp [pairsTo]⟩ fun i y e hy ⟨rs1, h1, he, hl1⟩ => by
      obtain ⟨hi, rfl⟩ := range_at hy
      subst he
      have hz := town_pairs pn hpm.2 y hi
      have hz' : pairsTo pn (y + 1) = pairsTo pn y + (pn - 1 - y) := rfl
      obtain ⟨rs2, h2, h3, h4⟩ := town_row ds most p (1 + pairsTo pn y) y pn hpn hi (by omega) (by omega) hd rs1 h1 hl1 (by omega) (by omega)
      refine ⟨_, h2, rs2, ?_, ?_, ?_⟩
      · rw [show ((y + 1 : Nat) : Int) = (y : Int) + 1 by omega]; exact h3
      · rw [show (1 : Int) + ((pairsTo pn (y + 1) : Nat) : Int) = 1 + pairsTo pn y + (pn - 1 - y : Nat) by omega]
      · omega
  have hsz : p.toNat = pn := by omega
  have hlen : (List.range pn).length = pn := List.length_range
  rw [hlen] at hr he' hl'
  refine ⟨p, rs', ?_, ⟨by omega, hr.road, hr.asc⟩, by omega, ?_⟩
  · unfold S_law_town
    refine (run_eq (E := [some (.sh false (.list (ds.map .int))), some (.sh true (.int most)), none, none, none, none, none]) rfl rfl).trans ?_
    unfold b_law_town
    simp (disch := omega) [← hp]
    simp (disch := omega) [hsz]
    refine (cL_ok hf).trans ?_
    simp (disch := omega) [he']
  · have : pairsTo pn pn ≤ 21 := by
      have := town_pairs pn hpm.2 (pn - 1) (by omega)
      rw [show pn - 1 + 1 = pn by omega] at this; omega
    omega
end Dn
namespace Dn
open PySem PySem.Spec L2
structure TownNum (p : Int) (rs : List Rd) : Prop where
  p1 : 0 ≤ p ∧ p < 1000
  road : ∀ r ∈ rs, (0 ≤ r.1 ∧ r.1 < 1000) ∧ (0 ≤ r.2.1 ∧ r.2.1 < 1000) ∧ 0 ≤ r.2.2 ∧ r.2.2 < 1000
  len : rs.length ≤ 1000
theorem TownOk.num {p : Int} {rs : List Rd} (h : TownOk p rs) (hp : p ≤ 900) (hl : rs.length ≤ 1000) : TownNum p rs :=
  ⟨by have := h.p1; omega, fun r hr => by have := h.road r hr; omega, hl⟩
theorem TownNum.rp {p : Int} {rs : List Rd} (h : TownNum p rs) : reprOk (cTown p rs) = true := by
  have hr : ∀ r ∈ rs, RpOk (cRd r) 1 18 := fun r hr => by
    obtain ⟨h1, h2, h3⟩ := h.road r hr
    exact (RpOk.tup (.cons (.int h1) (.cons (.int h2) (.cons (.int h3) .nil)))).mono (by decide) (by simp)
  have := RpOk.tup (.cons (.int h.p1) (.cons (.list (.map hr)) .nil))
  have hl := h.len
  refine this.ok (by decide) ?_
  simp only [List.length_map, List.length_cons, List.length_nil]
  omega
end Dn
namespace Dn
open PySem PySem.Spec L2
def drawNext (r : Int) (a k : Int) : Int := (((r * 48271 + k * 69621 + 11) % 2147483647) * 16807 + a) % 2147483629 / 7 % 1000
def drawStep (st : List Int × List Int) (k : Nat) : List Int × List Int :=
  if st.1.length = 0 then (st.1, st.2 ++ [0])
  else if 1000000000000000000 ≤ iat st.1 ((k : Int) % (st.1.length : Int)) then (ist st.1 ((k : Int) % (st.1.length : Int)) (iat st.1 ((k : Int) % (st.1.length : Int)) / 1000), st.2 ++ [iat st.1 ((k : Int) % (st.1.length : Int)) % 1000])
  else (st.1, st.2 ++ [drawNext (iat st.1 ((k : Int) % (st.1.length : Int))) ((k : Int) % (st.1.length : Int)) k])
def drawSt (ns : List Int) (k : Nat) : List Int × List Int := (List.range k).foldl drawStep (ns, [])
def draws (ns : List Int) (k : Nat) : List Int := (drawSt ns k).2
theorem drawSt_succ (ns : List Int) (k : Nat) : drawSt ns (k + 1) = drawStep (drawSt ns k) k := by
  unfold drawSt; rw [List.range_succ, List.foldl_append]; rfl
theorem drawStep_len (st : List Int × List Int) (k : Nat) : (drawStep st k).2.length = st.2.length + 1 := by
  unfold drawStep; split
  · simp
  · split <;> simp
theorem draws_len (ns : List Int) : ∀ k, (draws ns k).length = k
  | 0 => rfl
  | k + 1 => by unfold draws; rw [drawSt_succ, drawStep_len]; exact congrArg (· + 1) (draws_len ns k)
theorem draws_in (ns : List Int) : ∀ k, ∀ v ∈ draws ns k, 0 ≤ v ∧ v < 1000
  | 0, v, h => by cases h
  | k + 1, v, h => by
    have ih := draws_in ns k
    unfold draws at h ih
    rw [drawSt_succ] at h
    unfold drawStep drawNext at h
    split at h
    · rcases List.mem_append.mp h with h | h
      · exact ih v h
      · rw [List.mem_singleton.mp h]; omega
    · split at h
      · rcases List.mem_append.mp h with h | h
        · exact ih v h
        · rw [List.mem_singleton.mp h]; omega
      · rcases List.mem_append.mp h with h | h
        · exact ih v h
        · rw [List.mem_singleton.mp h]; omega
abbrev dE (ns : List Int) (c : Int) (rs as : List Int) : Dn.Env := [some (.sh false (.list (ns.map .int))), some (.sh true (.int c)), some (.ow true (rs.map .int)), some (.ow true (as.map .int)), none, none, none, none, none]
theorem draws_turn (ns : List Int) (c : Int) (rs as : List Int) (i : Nat) (hi : i < 1000) (hl : as.length = i) :
    (gN 4 (true, .int (i : Int)) (dE ns c rs as)).bind l1_law_draws = .ok (.nx (dE ns c (drawStep (rs, as) i).1 (drawStep (rs, as) i).2)) := by
  rw [turn_eq]
  unfold drawStep l1_law_draws
  by_cases h0 : rs.length = 0
  · simp (disch := omega) [h0]
  · have p0 : 0 ≤ (i : Int) % (rs.length : Int) := Int.emod_nonneg _ (by omega)
    have p1 : (i : Int) % (rs.length : Int) < rs.length := Int.emod_lt_of_pos _ (by omega)
    rw [if_neg h0]
    by_cases h1 : 1000000000000000000 ≤ iat rs ((i : Int) % (rs.length : Int))
    · rw [if_pos h1]
      simp (disch := omega)
    · rw [if_neg h1]
      simp (disch := omega) [drawNext]
theorem draws_ok (ns : List Int) (c : Nat) (hn : ns.length ≤ 1000000) (hc : c ≤ 1000) : S_law_draws [.list (ns.map .int), .int c] = .ok (.nw true ((draws ns c).map .int)) := by
  unfold S_law_draws
  refine (run_eq (E := [some (.sh false (.list (ns.map .int))), some (.sh true (.int c)), none, none, none, none, none, none, none]) rfl rfl).trans ?_
  unfold b_law_draws
  simp (disch := omega)
  refine cLc_m (c' := .int) (fun n => n) hn rfl rfl rfl (fun n _ => ?_) ?_
  · unfold e1_law_draws; simp [lcE]
  simp (disch := omega)
  refine cL_list (fun i => dE ns c (drawSt ns i).1 (drawSt ns i).2) rfl (fun i y hi => ?_) ?_
  · obtain ⟨hi, rfl⟩ := range_at hi
    rw [drawSt_succ]
    exact draws_turn ns c _ _ _ (by omega) (draws_len ns _)
  · simp [dE]; rfl
end Dn
namespace Dn
open PySem PySem.Spec L2
abbrev cWs (ws : List (List Nat)) : PyData := .list (ws.map cS)
abbrev roadWs (r : Rd) : List (List Nat) := [114, 111, 97, 100] :: [r.1, r.2.1, r.2.2].map numC
abbrev linesOf (p : Int) (rs : List Rd) : List (List (List Nat)) := [[112, 108, 97, 99, 101, 115], numC p] :: rs.map roadWs
theorem lines_ok {p : Int} {rs : List Rd} (h : TownNum p rs) : S_law_lines [cTown p rs] = .ok (.nw true ((linesOf p rs).map cWs)) := by
  have hp := h.p1
  have hl := h.len
  unfold S_law_lines
  refine (run_eq (E := [some (.sh false (cTown p rs)), none, none]) rfl rfl).trans ?_
  unfold b_law_lines
  simp (disch := omega)
  refine cLc_m (c' := cWs) roadWs (by omega) rfl rfl rfl (fun r hr => ?_) ?_
  · unfold e2_law_lines lcE
    obtain ⟨h1, h2, h3⟩ := h.road r hr
    simp (disch := omega)
    refine cLc_m (ys := [r.1, r.2.1, r.2.2]) (c := .int) (c' := cS) numC (by simp) rfl rfl rfl (fun x hx => ?_) ?_
    · unfold e1_law_lines lcE
      have hx' : 0 ≤ x ∧ x < 1000 := by
        simp only [List.mem_cons, List.not_mem_nil, or_false] at hx
        rcases hx with rfl | rfl | rfl <;> omega
      simp (disch := omega)
    · simp (disch := omega)
  · simp (disch := omega)
theorem joinL_len (a : List Nat) : ∀ xs : List (List Nat), (TL.joinL a xs).length ≤ (xs.map (·.length)).sum + xs.length * a.length
  | [] => by simp [TL.joinL]
  | [x] => by simp [TL.joinL]
  | x :: y :: r => by
    have := joinL_len a (y :: r)
    show (x ++ (a ++ TL.joinL a (y :: r))).length ≤ _
    rw [List.length_append, List.length_append, List.map_cons, List.sum_cons, List.length_cons, Nat.succ_mul]
    omega
abbrev textOf (ls : List (List (List Nat))) : List Nat := (ls.map fun ws => TL.joinL [32] ws ++ [10]).flatten
theorem text_ok {ls : List (List (List Nat))} (h0 : ls.length ≤ 1000) (h1 : ∀ ws ∈ ls, ws.length ≤ 10 ∧ ∀ w ∈ ws, w.length ≤ 10) : S_law_text [.list (ls.map cWs)] = .ok (.sh true (cS (textOf ls))) := by
  unfold S_law_text
  refine (run_eq (E := [some (.sh false (.list (ls.map cWs))), none]) rfl rfl).trans ?_
  unfold b_law_text
  have hj : ∀ ws ∈ ls, (ws.map (·.length)).sum + ws.length * [32].length ≤ 110 := fun ws hw => by
    obtain ⟨h2, h3⟩ := h1 ws hw
    have := sum_le h3
    simp only [List.length_singleton]; omega
  have hs : (ls.map fun ws => TL.joinL [32] ws ++ [10]).flatten.length ≤ 1000000 := by
    have := flat_le (xs := ls.map fun ws => TL.joinL [32] ws ++ [10]) (b := 111) fun x hx => by
      obtain ⟨ws, hw, rfl⟩ := List.mem_map.mp hx
      have := joinL_len [32] ws
      have := hj ws hw
      rw [List.length_append, List.length_singleton]; omega
    rw [List.length_map] at this
    omega
  simp (disch := omega)
  refine cLc_m (c' := cS) (fun ws => TL.joinL [32] ws ++ [10]) (by omega) rfl rfl rfl (fun ws hw => ?_) ?_
  · unfold e1_law_text lcE
    have := hj ws hw
    have := joinL_len [32] ws
    simp (disch := first | omega | assumption)
  · simp (disch := first | omega | assumption) [joinL_nil, textOf]
abbrev roadTx (r : Rd) : List Nat := TL.joinL [32] (roadWs r) ++ [10]
theorem write_ok {p : Int} {rs : List Rd} (h : TownNum p rs) : S_write_town [cTown p rs] = .ok (.sh true (cS (textOf (linesOf p rs)))) := by
  have hp := h.p1
  have hl := h.len
  have hpl := numC_len hp
  have hs : (rs.map roadTx).flatten.length ≤ 100000 := by
    have := flat_le (xs := rs.map roadTx) (b := 17) fun x hx => by
      obtain ⟨r, hr, rfl⟩ := List.mem_map.mp hx
      obtain ⟨h1, h2, h3⟩ := h.road r hr
      have := numC_len h1
      have := numC_len h2
      have := numC_len h3
      simp [roadTx, roadWs, TL.joinL]; omega
    rw [List.length_map] at this
    omega
  unfold S_write_town
  refine (run_eq (E := [some (.sh false (cTown p rs)), none, none, none, none, none, none]) rfl rfl).trans ?_
  unfold b_write_town
  simp (disch := omega)
  refine cLc_m (c' := cS) roadTx (by omega) rfl rfl rfl (fun r hr => ?_) ?_
  · unfold e1_write_town lcE
    obtain ⟨h1, h2, h3⟩ := h.road r hr
    have := numC_len h1
    have := numC_len h2
    have := numC_len h3
    simp (disch := first | omega | (simp <;> omega)) [roadTx, roadWs, TL.joinL]
  · simp (disch := first | omega | (simp only [List.length_append, List.length_cons, List.length_nil]; omega)) [textOf, TL.joinL, Function.comp_def, -List.length_flatten]
end Dn
namespace Dn
open PySem PySem.Spec L2
inductive Sv where
  | int (i : Int)
  | bl (b : Bool)
  | non
  | one
def sc3 : Sv → PyData
  | .int i => .int i
  | .bl b => .bool b
  | .non => .none
  | .one => .str "1"
def Sv.wh : Sv → Bool
  | .int _ => true
  | _ => false
theorem sc3_atom (s : Sv) : atom (sc3 s) = true := by cases s <;> rfl
theorem whole_sv (s : Sv) : Sq_is_whole [sc3 s] = some (.bool s.wh) := by
  have go : ∀ (d : PyData) (b1 b2 : Bool), atom d = true → isT "int" d = some b1 → isT "bool" d = some b2 → Sq_is_whole [d] = some (.bool (b1 && !b2)) := fun d b1 b2 ha h1 h2 => by
    unfold Sq_is_whole qRun
    rw [if_pos (show [d].length = 1 from rfl)]
    show qAnd (qIsi "int" (qVar 0)) (qNot (qIsi "bool" (qVar 0))) [some d] = _
    have g1 : qIsi "int" (qVar 0) [some d] = some (.bool b1) := by
      show (if atom d = true then (match isT "int" d with | some b => some (PyData.bool b) | none => none) else (none : Option PyData)) = _
      rw [if_pos ha, h1]
    have g2 : qIsi "bool" (qVar 0) [some d] = some (.bool b2) := by
      show (if atom d = true then (match isT "bool" d with | some b => some (PyData.bool b) | none => none) else (none : Option PyData)) = _
      rw [if_pos ha, h2]
    unfold qAnd qNot
    rw [g1, g2]
    cases b1 <;> cases b2 <;> rfl
  cases s with
  | int i => exact go _ true false rfl isT_int_int isT_bool_int
  | bl b => exact go _ true true rfl isT_int_bool isT_bool_bool
  | non => exact go _ false false rfl isT_int_none isT_bool_none
  | one => exact go _ false false rfl isT_int_str isT_bool_str
theorem is_whole_sv (s : Sv) : S_is_whole [sc3 s] = .ok (.sh true (.bool s.wh)) := by
  unfold S_is_whole
  refine (run_eq (E := [some (.sh true (sc3 s))]) rfl (by simp [envOf, sc3_atom])).trans ?_
  unfold b_is_whole
  cases s <;> simp (disch := omega) [sc3, Sv.wh]
abbrev T3 := Sv × Sv × Sv
abbrev cT3 (t : T3) : PyData := .tuple [sc3 t.1, sc3 t.2.1, sc3 t.2.2]
abbrev toT (x : Rd) : T3 := (.int x.1, .int x.2.1, .int x.2.2)
def T3.wh (t : T3) : Bool := t.1.wh && (t.2.1.wh && t.2.2.wh)
theorem all_whole_t (t : T3) : S_all_whole [cT3 t] = .ok (.sh true (.bool t.wh)) := by
  obtain ⟨a, b, c⟩ := t
  unfold S_all_whole
  refine (run_eq (E := [some (.sh false (cT3 (a, b, c))), none]) rfl rfl).trans ?_
  unfold b_all_whole
  have e : ([a, b, c].map Sv.wh).all id = T3.wh (a, b, c) := by simp [T3.wh]
  have e2 : cT3 (a, b, c) = .tuple ([a, b, c].map sc3) := rfl
  simp (disch := omega) [-List.map_map]
  rw [e2, genK_t (g := Sv.wh) (vs := []) rfl (fun s _ => whole_sv s), e]
  simp
section
variable {p : Int} {x : Rd}
def RoadB (p : Int) (x : Rd) : Prop := 0 ≤ x.1 ∧ x.1 < x.2.1 ∧ x.2.1 < p ∧ 1 ≤ x.2.2 ∧ x.2.2 ≤ 9
theorem is_road_yes (hx : RoadB p x) : S_is_road [.int p, .tuple [.int x.1, .int x.2.1, .int x.2.2]] = .ok (.sh true (.bool true)) := by
  have h1 : S_all_whole [.tuple [.int x.1, .int x.2.1, .int x.2.2]] = .ok (.sh true (.bool true)) := all_whole_t (toT x)
  obtain ⟨x1, x2, x3, x4, x5⟩ := hx
  unfold S_is_road
  refine (run_eq (E := [some (.sh true (.int p)), some (.sh false (.tuple [.int x.1, .int x.2.1, .int x.2.2])), none, none, none]) rfl rfl).trans ?_
  unfold b_is_road
  simp (disch := omega) [↓cCs h1, x1, x2, x3, x4, x5, -List.map_map]
end
section
variable {β : Type} {h : HX β} {n m : Bool}
@[simp ↓] theorem cR_leT {i j i' j' : Int} {k : R → Rs β} : cR (gLeT (n, .tuple [.int i, .int j]) (m, .tuple [.int i', .int j'])) h k = k (.sh true (.bool (leP (i, j) (i', j')))) := by
  have e1 : (!PySem.W.dataLt (cQ (i', j')) (cQ (i, j))) = leP (i, j) (i', j') := by
    show (!PySem.W.dataLt (.tuple [.int i', .int j']) (.tuple [.int i, .int j])) = _
    rw [PySem.W.dataLt_ii]
    unfold leP
    rw [← decide_not]
    exact decide_eq_decide.mpr (by dsimp only; omega)
  unfold cR gLeT
  show on (grd (PyData.canLay0 (cQ (i, j)) && (PyData.canLay0 (cQ (i', j')) && (PySem.W.alike (cQ (i, j)) (cQ (i', j')) && decide ((cQ (i, j)).depth ≤ 60)))) (sc (.bool (!PySem.W.dataLt (cQ (i', j')) (cQ (i, j)))))) h k = _
  rw [lay_q, lay_q, alike_q, dep_q, e1]
  rfl
end
end Dn
namespace Dn
open PySem PySem.Spec L2
section
variable {p : Int} {rs : List Rd}
def ahS (rs : List Rd) : Nat → Sl
  | 0 => .sh true (.tuple [.int (-1), .int (-1)])
  | i + 1 => match rs[i]? with
    | some r => .sh false (.tuple [.int r.1, .int r.2.1])
    | none => .sh true .none
def ahP (rs : List Rd) : Nat → Pr
  | 0 => (-1, -1)
  | i + 1 => match rs[i]? with
    | some r => (r.1, r.2.1)
    | none => (-1, -1)
theorem ahP_s {i : Nat} {r : Rd} (h : rs[i]? = some r) : ahP rs (i + 1) = (r.1, r.2.1) := by
  show (match rs[i]? with | some r => (r.1, r.2.1) | none => (-1, -1)) = _
  rw [h]
theorem ahS_s {i : Nat} {r : Rd} (h : rs[i]? = some r) : ahS rs (i + 1) = .sh false (.tuple [.int r.1, .int r.2.1]) := by
  show (match rs[i]? with | some r => Sl.sh false (.tuple [.int r.1, .int r.2.1]) | none => .sh true .none) = _
  rw [h]
theorem ah_lt (ok : TownOk p rs) {i : Nat} {r : Rd} (h : rs[i]? = some r) : leP (r.1, r.2.1) (ahP rs i) = false := by
  have hr := ok.road r (List.mem_of_getElem? h)
  refine decide_eq_false ?_
  cases i with
  | zero =>
    show ¬ (r.1 < -1 ∨ (r.1 = -1 ∧ r.2.1 ≤ -1))
    omega
  | succ i =>
    have hi : i + 1 < rs.length := (List.getElem?_eq_some_iff.mp h).1
    have e : rs[i]? = some rs[i] := List.getElem?_eq_getElem (by omega)
    have e2 : rs[i + 1] = r := (List.getElem?_eq_some_iff.mp h).2
    have := (List.pairwise_iff_getElem.mp ok.asc) i (i + 1) (by omega) hi (by omega)
    rw [e2] at this
    rw [ahP_s e]
    unfold RdLt at this
    dsimp only
    omega
theorem ah_slot (rs : List Rd) {i : Nat} (hi : i ≤ rs.length) : ∃ f, ahS rs i = .sh f (.tuple [.int (ahP rs i).1, .int (ahP rs i).2]) := by
  cases i with
  | zero => exact ⟨true, rfl⟩
  | succ i =>
    rw [ahS_s (List.getElem?_eq_getElem (by omega)), ahP_s (List.getElem?_eq_getElem (by omega))]
    exact ⟨false, rfl⟩
def ckE (p : Int) (L : List T3) (rs : List Rd) (i : Nat) : Env := [some (.sh false (.tuple [.int p, .list (L.map cT3)])), some (ahS rs i), some (.sh true (.int p)), some (.sh false (.list (L.map cT3))), none, none]
theorem ck_turn {L : List T3} (ok : TownOk p rs) {i : Nat} {r : Rd} (h : rs[i]? = some r) : (gT 2 (gsC (gN 4) (gsC (gN 5) gsN)) (false, cEn cT3 (toT r, i)) (ckE p L rs i)).bind l1_check_town_v2 = .ok (.nx (ckE p L rs (i + 1))) := by
  have hi : i < rs.length := (List.getElem?_eq_some_iff.mp h).1
  obtain ⟨f, hf⟩ := ah_slot rs (Nat.le_of_lt hi)
  have hlt := ah_lt ok h
  have hir := is_road_yes (p := p) (x := r) (ok.road r (List.mem_of_getElem? h))
  have hs : ahS rs (i + 1) = .sh false (.tuple [.int r.1, .int r.2.1]) := ahS_s h
  have cut : ∀ a b c : PyData, cutD [a, b, c] none (some 2) = [a, b] := fun _ _ _ => rfl
  have e0 : cEn cT3 (toT r, i) = .tuple [.int (i : Int), .tuple [.int r.1, .int r.2.1, .int r.2.2]] := rfl
  unfold ckE
  generalize L.map cT3 = ds
  rw [turn_eq, hs, hf, e0]
  unfold l1_check_town_v2
  simp (disch := first | omega | assumption) [↓cCs hir, cut, hlt, -List.map_map]
theorem zipT_at {L : List T3} {i : Nat} {y : T3} (h : L[i]? = some y) : L.zipIdx[i]? = some (y, i) := by
  rw [List.getElem?_zipIdx, h]
  simp
theorem check_good (ok : TownOk p rs) (hp : p ≤ 7) (hl : rs.length ≤ 1000) : S_check_town_v2 [cTown p rs] = .ok (.sh true .none) := by
  have hp1 := ok.p1
  have hw : S_is_whole [.int p] = .ok (.sh true (.bool true)) := is_whole_sv (.int p)
  have e0 : cTown p rs = .tuple [.int p, .list ((rs.map toT).map cT3)] := by rw [List.map_map]; rfl
  have hll : (rs.map toT).length ≤ 1000 := by rw [List.length_map]; exact hl
  rw [e0]
  generalize hL : rs.map toT = L at *
  unfold S_check_town_v2
  refine (run_eq (E := [some (.sh false (.tuple [.int p, .list (L.map cT3)])), none, none, none, none, none]) rfl rfl).trans ?_
  unfold b_check_town_v2
  simp (disch := first | omega | assumption) [↓cCs hw, -List.map_map]
  refine cL_list (ys := L.zipIdx) (c := cEn cT3) (ckE p L rs) rfl (fun i y hy => ?_) ?_
  · have hi : i < rs.length := by
      have := (List.getElem?_eq_some_iff.mp hy).1
      rw [List.length_zipIdx, ← hL, List.length_map] at this
      exact this
    have q : rs[i]? = some rs[i] := List.getElem?_eq_getElem hi
    have q2 : L[i]? = some (toT rs[i]) := by rw [← hL, List.getElem?_map, q]; rfl
    rw [zipT_at q2] at hy
    cases hy
    exact ck_turn ok q
  · unfold ckE
    simp
end
end Dn
namespace Dn
open PySem PySem.Spec L2
theorem num_facts : ∀ i : Nat, i < 1000 → ((numC (i : Int)).all (fun c => decide (c ∈ [48, 49, 50, 51, 52, 53, 54, 55, 56, 57])) && (decide (1 ≤ (numC (i : Int)).length) && decide ((numC (i : Int)).length ≤ 3)) && (decide (numC (i : Int) = [48]) || decide ((numC (i : Int)).head? ≠ some 48))) = true := by decide +kernel
abbrev digs : List Nat := [48, 49, 50, 51, 52, 53, 54, 55, 56, 57]
structure NumW (w : List Nat) : Prop where
  dig : ∀ c ∈ w, c ∈ digs
  len : 1 ≤ w.length ∧ w.length ≤ 3
  zer : w = [48] ∨ w.head? ≠ some 48
theorem num_w {i : Int} (h : 0 ≤ i ∧ i < 1000) : NumW (numC i) := by
  have q := num_facts i.toNat (by omega)
  rw [show ((i.toNat : Nat) : Int) = i by omega] at q
  simp only [Bool.and_eq_true, Bool.or_eq_true, decide_eq_true_eq, List.all_eq_true] at q
  exact ⟨q.1.1, q.1.2, q.2⟩
def isDg (c : Nat) : Bool := decide (c ∈ digs)
theorem one_sign (c : Nat) (h : c ≠ 48) : eqB (.str ⟨#[c]⟩) (cS [48]) = some false := by
  show some (decide ((⟨#[c]⟩ : Str) = SX.S [48])) = some false
  rw [decide_eq_false (fun z => h (by have := congrArg (fun x : Str => x.cps.toList) z; simpa [SX.S] using this))]
theorem is_number_ok {w : List Nat} (h : NumW w) : S_is_number [cS w] = .ok (.sh true (.bool true)) := by
  obtain ⟨h1, h2, h3⟩ := h
  have hall : (w.map isDg).all id = true := by
    rw [List.all_map, List.all_eq_true]
    exact fun c hc => decide_eq_true (h1 c hc)
  have hq : ∀ c ∈ (SX.S w).cps.toList, qInS (qVar 0) (qStr "0123456789") (some (.str ⟨#[c]⟩) :: ([] : List PyData).map some) = some (.bool (isDg c)) := fun c _ => rfl
  have hg := fun (β : Type) (env : Env) (k : Env → R → Rs β) => genSK_s (ag := fun bs => bs.all id) (fr := []) (env := env) (k := k) (vs := []) rfl hq
  have hw : (SX.S w).cps.toList = w := rfl
  rw [hw] at hg
  rw [hall] at hg
  clear hq hall
  unfold S_is_number
  refine (run_eq (E := [some (.sh true (cS w)), none]) rfl rfl).trans ?_
  unfold b_is_number
  by_cases h4 : w = [48]
  · subst h4
    simp (disch := first | omega | assumption) [hg, -List.map_map]
  · have h5 : w.head? ≠ some 48 := h3.resolve_left h4
    obtain ⟨c, r, hcr⟩ : ∃ c r, w = c :: r := by
      cases w with
      | nil => simp at h2
      | cons c r => exact ⟨c, r, rfl⟩
    have hat : atI w 0 = some c := by rw [hcr]; unfold atI ixN; rw [if_pos (by decide), if_pos (by simp)]; rfl
    have hc : c ≠ 48 := fun z => h5 (by rw [hcr, z]; rfl)
    have he := one_sign c hc
    simp (disch := first | omega | assumption) [hg, h4, hat, he, hc, -List.map_map]
theorem is_right0 {w f : List Nat} {m : Int} (h : w = f) : S_is_right [cS w, .int 0, cS f, .int m] = .ok (.sh true (.bool true)) := by
  subst h
  unfold S_is_right
  refine (run_eq (E := [some (.sh true (cS w)), some (.sh true (.int 0)), some (.sh true (cS w)), some (.sh true (.int m))]) rfl rfl).trans ?_
  unfold b_is_right
  simp (disch := first | omega | assumption) [-List.map_map]
theorem is_rightN {w f : List Nat} {a m : Int} (h : NumW w) (ha : 0 < a ∧ a ≤ m) : S_is_right [cS w, .int a, cS f, .int m] = .ok (.sh true (.bool true)) := by
  have h1 := is_number_ok h
  have h2 : ¬ a = 0 := by omega
  have h3 : a ≤ m := ha.2
  unfold S_is_right
  refine (run_eq (E := [some (.sh true (cS w)), some (.sh true (.int a)), some (.sh true (cS f)), some (.sh true (.int m))]) rfl rfl).trans ?_
  unfold b_is_right
  simp (disch := first | omega | assumption) [↓cCs h1, h2, h3, -List.map_map]
theorem split_ws {s : Nat} (hs : s < 256) {parts : List (List Nat)} (hne : parts ≠ []) (hp : ∀ p ∈ parts, s ∉ p) : Txt.split (SX.S (TL.joinL [s] parts)) (SX.S [s]) = parts.map SX.S := by
  rw [SX.split_S (by simp) (by simp [hs]), TL.spl_join hne hp]
theorem read_line_ok {nm : List Nat} {is : List Int} {j m : Int} (hm : m = is.length) (h3 : is.length ≤ 3) (hn : 32 ∉ nm ∧ nm.length ≤ 10) (hi : ∀ i ∈ is, 0 ≤ i ∧ i < 1000) (h1 : 1 ≤ is.length) :
    S_read_line_v2 [.int j, cS (TL.joinL [32] (nm :: is.map numC)), cS nm, .int m] = .ok (.nw true (is.map .int)) := by
  have hw : ∀ w ∈ nm :: is.map numC, 32 ∉ w := fun w hw z => by
    rcases List.mem_cons.mp hw with e | e
    · exact hn.1 (e ▸ z)
    · obtain ⟨i, hi2, rfl⟩ := List.mem_map.mp e
      have := (num_w (hi i hi2)).dig 32 z
      simp at this
  have hsp := split_ws (s := 32) (by decide) (parts := nm :: is.map numC) (by simp) hw
  have hlen : (TL.joinL [32] (nm :: is.map numC)).length ≤ 900000 := by
    have := joinL_len [32] (nm :: is.map numC)
    have q := sum_le (xs := is.map numC) (b := 3) fun w hw => by
      obtain ⟨i, hi2, rfl⟩ := List.mem_map.mp hw
      exact (num_w (hi i hi2)).len.2
    simp at this q
    omega
  have hR : ∀ (i : Nat) (w : List Nat), (nm :: is.map numC)[i]? = some w → S_is_right [cS w, .int (i : Int), cS nm, .int m] = .ok (.sh true (.bool true)) ∧ w.length ≤ 10 := fun i w hw => by
    cases i with
    | zero =>
      cases hw
      exact ⟨is_right0 rfl, hn.2⟩
    | succ i =>
      rw [List.getElem?_cons_succ, List.getElem?_map] at hw
      cases q : is[i]? with
      | none => rw [q] at hw; cases hw
      | some z =>
        rw [q] at hw
        cases hw
        have hz := num_w (hi z (List.mem_of_getElem? q))
        have hil : i < is.length := (List.getElem?_eq_some_iff.mp q).1
        exact ⟨is_rightN hz (by omega), by have := hz.len.2; omega⟩
  have hWl : (nm :: is.map numC).length = is.length + 1 := by simp
  have hWd : ((nm :: is.map numC).map cS).tail = is.map fun i => cS (numC i) := by simp
  have hsp2 : (Txt.split (SX.S (TL.joinL [32] (nm :: is.map numC))) (SX.S [32])).map PyData.str = (nm :: is.map numC).map cS := by rw [hsp, List.map_map]; rfl
  clear hw hsp
  generalize TL.joinL [32] (nm :: is.map numC) = L at *
  generalize nm :: is.map numC = WS at *
  have hspl := fun (β : Type) (e : Env) (k : Env → R → Rs β) => spl2_s (a := SX.S L) (b := SX.S [32]) (e := e) (k := k) rfl hlen
  rw [hsp2] at hspl
  unfold S_read_line_v2
  refine (run_eq (E := [some (.sh true (.int j)), some (.sh true (cS L)), some (.sh true (cS nm)), some (.sh true (.int m)), none, none, none, none]) rfl rfl).trans ?_
  unfold b_read_line_v2
  simp (disch := first | omega | assumption) [hspl, -List.map_map]
  refine cL_list (ys := WS.zipIdx) (c := cEn cS) (fun i => [some (.sh true (.int j)), some (.sh true (cS L)), some (.sh true (cS nm)), some (.sh true (.int m)), some (.sh true (.list (WS.map cS))), some (.sh true (.int (1 + ((WS.take i).map fun w => (w.length : Int) + 1).sum))), none, none]) rfl (fun i y hy => ?_) ?_
  · obtain ⟨w, i2⟩ := y
    obtain ⟨hw, rfl⟩ : WS[i]? = some w ∧ i2 = i := by
      rw [List.getElem?_zipIdx] at hy
      cases q : WS[i]? with
      | none => rw [q] at hy; cases hy
      | some r => rw [q] at hy; cases hy; exact ⟨rfl, by simp⟩
    obtain ⟨r1, r2⟩ := hR i2 w hw
    have hs : ((WS.take (i2 + 1)).map fun w => (w.length : Int) + 1).sum = ((WS.take i2).map fun w => (w.length : Int) + 1).sum + ((w.length : Int) + 1) := by
      rw [List.take_add_one, hw, List.map_append, List.sum_append]
      simp
    rw [turn_eq, hs]
    generalize ((WS.take i2).map fun w => (w.length : Int) + 1).sum = z
    unfold l1_read_line_v2
    simp (disch := first | omega | assumption) [↓cCs r1, -List.map_map]
    omega
  · have hle : ¬ ((WS.length : Int) ≤ m) := by omega
    simp (disch := first | omega | assumption) [hle, hWd, -List.map_map]
    refine cLc_m (ys := is) (c := fun i => cS (numC i)) (c' := PyData.int) (fun i => i) (by omega) rfl rfl rfl (fun i hi2 => ?_) ?_
    · have hI : PySem.intText? (SX.S (numC i)) = some i := by
        obtain ⟨k, rfl⟩ : ∃ k : Nat, i = k := ⟨i.toNat, by have := hi i hi2; omega⟩
        rw [← num_str]
        exact TL.int_num (by have := (num_w (hi (k : Int) hi2)).len.2; rw [← TL.tl_num, num_str] ; show (numC (k : Int)).length ≤ 4300; omega)
      have hl3 := (num_w (hi i hi2)).len.2
      unfold lcE e1_read_line_v2
      have hb := fun (β : Type) (n : Bool) (h : HX β) (k : R → Rs β) => bIntT_s (n := n) (h := h) (k := k) hI (show (SX.S (numC i)).length ≤ 640 by rw [SX.S_len]; omega)
      simp (disch := first | omega | assumption) [hb, -List.map_map]
    · simp
end Dn
namespace Dn
open PySem PySem.Spec L2
theorem text_join : ∀ Ls : List (List Nat), (Ls.map fun l => l ++ [10]).flatten = TL.joinL [10] (Ls ++ [[]])
  | [] => rfl
  | [x] => by simp [TL.joinL]
  | x :: y :: r => by
    have ih := text_join (y :: r)
    show (x ++ [10]) ++ ((y :: r).map fun l => l ++ [10]).flatten = x ++ ([10] ++ TL.joinL [10] (y :: r ++ [[]]))
    rw [ih, List.append_assoc]
abbrev flatL (Ls : List (List Nat)) : List Nat := (Ls.map fun l => l ++ [10]).flatten
theorem lines_of_ok {Ls : List (List Nat)} (h0 : Ls ≠ []) (h1 : ∀ l ∈ Ls, 10 ∉ l) (h2 : (flatL Ls).length ≤ 900000) : S_lines_of_v2 [cS (flatL Ls)] = .ok (.nw true (Ls.map cS)) := by
  have hsp := split_ws (s := 10) (by decide) (parts := Ls ++ [[]]) (by simp) fun p hp z => by
    rcases List.mem_append.mp hp with e | e
    · exact h1 p e z
    · simp at e; subst e; simp at z
  rw [← text_join] at hsp
  have hsp2 : (Txt.split (SX.S (flatL Ls)) (SX.S [10])).map PyData.str = (Ls ++ [[]]).map cS := by rw [hsp, List.map_map]; rfl
  have hne : flatL Ls ≠ [] := by
    cases Ls with
    | nil => exact absurd rfl h0
    | cons a l => simp [flatL]
  have hat : atI ((Ls ++ [[]]).map cS) (-1) = some (cS []) := by
    unfold atI ixN
    rw [if_neg (by decide), if_pos (by simp; omega)]
    have e : ((-1 : Int) + (((Ls ++ [[]]).map cS).length : Nat)).toNat = Ls.length := by simp; omega
    show ((Ls ++ [[]]).map cS)[((-1 : Int) + (((Ls ++ [[]]).map cS).length : Nat)).toNat]? = _
    rw [e, List.map_append, List.getElem?_append_right (by simp)]
    simp
  have hcut : cutD ((Ls ++ [[]]).map cS) none (some (-1)) = Ls.map cS := by
    have : cutD ((Ls ++ [[]]).map cS) none (some (-1)) = ((Ls ++ [[]]).map cS).take Ls.length := by
      unfold cutD HT.sIx
      simp
      rw [show ((-1 : Int) + ((Ls.length : Int) + 1)).toNat = Ls.length by omega]
      simp
    rw [this, List.map_append, List.take_append_of_le_length (by simp), List.take_of_length_le (by simp)]
  generalize (Ls ++ [[]]).map cS = D at *
  generalize flatL Ls = T at *
  have hspl := fun (β : Type) (e : Env) (k : Env → R → Rs β) => spl2_s (a := SX.S T) (b := SX.S [10]) (e := e) (k := k) rfl h2
  rw [hsp2] at hspl
  unfold S_lines_of_v2
  refine (run_eq (E := [some (.sh true (cS T)), none]) rfl rfl).trans ?_
  unfold b_lines_of_v2
  simp (disch := first | omega | assumption) [hspl, hne, hat, hcut, -List.map_map]
theorem flat_end : ∀ {Ls : List (List Nat)}, Ls ≠ [] → ∃ A, flatL Ls = A ++ [10]
  | [], h => absurd rfl h
  | [x], _ => ⟨x, by simp [flatL]⟩
  | x :: y :: r, _ => by
    obtain ⟨A, hA⟩ := flat_end (Ls := y :: r) (by simp)
    exact ⟨(x ++ [10]) ++ A, by rw [List.append_assoc, ← hA]; rfl⟩
theorem ends_ok {Ls : List (List Nat)} (h0 : Ls ≠ []) : Txt.endswith (SX.S (flatL Ls)) (SX.S [10]) = true := by
  obtain ⟨A, hl⟩ := flat_end h0
  rw [hl]
  have q : A.length + (⟨#[10]⟩ : Str).length ≤ (SX.S (A ++ [10])).length ∧ Builtin.Str.subAt (SX.S (A ++ [10])) ⟨#[10]⟩ A.length = true := by
    refine (PySem.StrLaws.subAt_one _ _ _).mpr ?_
    show (A ++ [10])[A.length]? = some 10
    simp
  have h1 : (SX.S (A ++ [10])).length = A.length + 1 := by rw [SX.S_len]; simp
  have h2 : (SX.S [10]).length = 1 := rfl
  unfold Txt.endswith
  rw [h1, h2, Bool.and_eq_true]
  exact ⟨by simp, q.2⟩
theorem check_end_ok {T : List Nat} {D : List PyData} (h : Txt.endswith (SX.S T) (SX.S [10]) = true) : S_check_end_v2 [cS T, .list D] = .ok (.sh true .none) := by
  unfold S_check_end_v2
  refine (run_eq (E := [some (.sh true (cS T)), some (.sh false (.list D))]) rfl rfl).trans ?_
  unfold b_check_end_v2
  simp (disch := first | omega | assumption) [h, -List.map_map]
end Dn
namespace Dn
open PySem PySem.Spec L2
theorem joinL_no {s : Nat} {sep : List Nat} (hs : s ∉ sep) : ∀ {xs : List (List Nat)}, (∀ x ∈ xs, s ∉ x) → s ∉ TL.joinL sep xs
  | [], _ => by simp [TL.joinL]
  | [x], h => by
    show s ∉ x
    exact h x (by simp)
  | x :: y :: r, h => by
    show s ∉ x ++ (sep ++ TL.joinL sep (y :: r))
    have ih := joinL_no hs (xs := y :: r) fun z hz => h z (List.mem_cons_of_mem _ hz)
    simp only [List.mem_append, not_or]
    exact ⟨h x (by simp), hs, ih⟩
abbrev nmP : List Nat := [112, 108, 97, 99, 101, 115]
abbrev nmR : List Nat := [114, 111, 97, 100]
def lineP (p : Int) : List Nat := TL.joinL [32] (nmP :: [p].map numC)
def lineR (r : Rd) : List Nat := TL.joinL [32] (nmR :: [r.1, r.2.1, r.2.2].map numC)
section
variable {p : Int} {rs : List Rd}
theorem line_facts {nm : List Nat} {is : List Int} (hn : 10 ∉ nm) (hl : nm.length ≤ 10) (h3 : is.length ≤ 3) (hi : ∀ i ∈ is, 0 ≤ i ∧ i < 1000) : 10 ∉ TL.joinL [32] (nm :: is.map numC) ∧ (TL.joinL [32] (nm :: is.map numC)).length ≤ 100 := by
  constructor
  · refine joinL_no (by decide) fun x hx z => ?_
    rcases List.mem_cons.mp hx with e | e
    · exact hn (e ▸ z)
    · obtain ⟨i, hi2, rfl⟩ := List.mem_map.mp e
      have := (num_w (hi i hi2)).dig 10 z
      simp at this
  · have := joinL_len [32] (nm :: is.map numC)
    have q := sum_le (xs := is.map numC) (b := 3) fun w hw => by
      obtain ⟨i, hi2, rfl⟩ := List.mem_map.mp hw
      exact (num_w (hi i hi2)).len.2
    simp at this q
    omega
theorem read_town_ok (ok : TownOk p rs) (hp : p ≤ 7) (hl : rs.length ≤ 21) : S_read_town_v2 [cS (textOf (linesOf p rs))] = .ok (.sh true (cTown p rs)) := by
  have hp1 := ok.p1
  have eT : textOf (linesOf p rs) = flatL (lineP p :: rs.map lineR) := by
    unfold textOf flatL linesOf
    rw [List.map_cons, List.map_cons, List.map_map, List.map_map]
    rfl
  have fr : ∀ r ∈ rs, ∀ i ∈ [r.1, r.2.1, r.2.2], 0 ≤ i ∧ i < 1000 := fun r hr i hi => by
    have := ok.road r hr
    simp only [List.mem_cons, List.not_mem_nil, or_false] at hi
    rcases hi with rfl | rfl | rfl <;> omega
  have fp : ∀ i ∈ [p], 0 ≤ i ∧ i < 1000 := fun i hi => by
    simp only [List.mem_cons, List.not_mem_nil, or_false] at hi
    subst hi
    omega
  have facts : ∀ l ∈ lineP p :: rs.map lineR, 10 ∉ l ∧ l.length ≤ 100 := fun l hx => by
    rcases List.mem_cons.mp hx with e | e
    · subst e
      exact line_facts (by decide) (by decide) (by simp) fp
    · obtain ⟨r, hr, rfl⟩ := List.mem_map.mp e
      exact line_facts (by decide) (by decide) (by simp) (fr r hr)
  have hlen : (flatL (lineP p :: rs.map lineR)).length ≤ 900000 := by
    have := flat_le (xs := (lineP p :: rs.map lineR).map fun l => l ++ [10]) (b := 101) fun x hx => by
      obtain ⟨l, hl2, rfl⟩ := List.mem_map.mp hx
      have := (facts l hl2).2
      rw [List.length_append, List.length_singleton]
      omega
    rw [List.length_map, List.length_cons, List.length_map] at this
    show ((lineP p :: rs.map lineR).map fun l => l ++ [10]).flatten.length ≤ 900000
    omega
  have hL := lines_of_ok (Ls := lineP p :: rs.map lineR) (by simp) (fun l hx => (facts l hx).1) hlen
  have h0 : S_read_line_v2 [.int 1, cS (lineP p), cS nmP, .int 1] = .ok (.nw true [.int p]) := read_line_ok (nm := nmP) (is := [p]) (j := 1) (m := 1) rfl (by simp) ⟨by decide, by decide⟩ fp (by simp)
  have hr : ∀ (j : Int) (r : Rd), r ∈ rs → S_read_line_v2 [.int j, cS (lineR r), cS nmR, .int 3] = .ok (.nw true [.int r.1, .int r.2.1, .int r.2.2]) := fun j r hm => read_line_ok (nm := nmR) (is := [r.1, r.2.1, r.2.2]) (j := j) (m := 3) rfl (by simp) ⟨by decide, by decide⟩ (fr r hm) (by simp)
  have he := check_end_ok (D := (lineP p :: rs.map lineR).map cS) (ends_ok (Ls := lineP p :: rs.map lineR) (by simp))
  have hc := check_good ok hp (by omega)
  have hat : atI ((lineP p :: rs.map lineR).map cS) 0 = some (cS (lineP p)) := by unfold atI ixN; rw [if_pos (by decide), if_pos (by simp)]; rfl
  have hcut : cutD ((lineP p :: rs.map lineR).map cS) (some 1) none = rs.map fun r => cS (lineR r) := by
    rw [cut_hi (by decide), List.map_cons, List.map_map]
    rfl
  rw [eT]
  generalize flatL (lineP p :: rs.map lineR) = T at *
  generalize (lineP p :: rs.map lineR).map cS = D at *
  generalize lineP p = L0 at *
  unfold S_read_town_v2
  refine (run_eq (E := [some (.sh true (cS T)), none, none, none, none, none]) rfl rfl).trans ?_
  unfold b_read_town_v2
  simp (disch := first | omega | assumption) [↓cCn hL, ↓cCn h0, ↓cCs he, ↓cCs hc, hat, hcut, -List.map_map]
  refine cL_list (ys := rs.zipIdx 2) (c := cEn fun r => cS (lineR r)) (fun i => [some (.sh true (cS T)), some (.ow true D), some (.sh true (.int p)), some (.ow true ((rs.take i).map cRd)), none, none]) rfl (fun i y hy => ?_) ?_
  · obtain ⟨r, j⟩ := y
    have hri : rs[i]? = some r := by
      rw [List.getElem?_zipIdx] at hy
      cases q : rs[i]? with
      | none => rw [q] at hy; cases hy
      | some r2 => rw [q] at hy; cases hy; rfl
    have hil : i < rs.length := (List.getElem?_eq_some_iff.mp hri).1
    have h1 := hr (j : Int) r (List.mem_of_getElem? hri)
    have hl2 : (rs.take i).length < 1000000 := by rw [List.length_take]; omega
    have hs : (rs.take (i + 1)).map cRd = (rs.take i).map cRd ++ [cRd r] := by
      rw [List.take_add_one, hri, List.map_append]
      rfl
    rw [turn_eq, hs]
    generalize rs.take i = ts at *
    unfold l1_read_town_v2
    simp (disch := first | omega | assumption) [↓cCn h1, -List.map_map]
  · rw [List.length_zipIdx, List.take_length]
    simp (disch := first | omega | assumption) [↓cCs he, ↓cCs hc, -List.map_map]
end
theorem law_k11_true (ns : List Int) (hn : ns.length ≤ 63) : S_law_k11 [.list (ns.map .int)] = .ok (.sh true (.bool true)) := by
  have hd : S_law_draws [.list (ns.map .int), .int 30] = _ := draws_ok ns 30 (by omega) (by omega)
  have hdl := draws_len ns 30
  have hdi := draws_in ns 30
  obtain ⟨p, rs, ht, ok, hp, hl⟩ := town_ok (draws ns 30) 7 hdi (by rw [hdl]; omega) (by omega)
  generalize draws ns 30 = ds at *
  have hnum := ok.num (by omega) (by omega)
  have hrp := hnum.rp
  have hp1 := ok.p1
  have hL := lines_ok hnum
  have hT := text_ok (ls := linesOf p rs) (by simp; omega) fun ws hw => by
    rcases List.mem_cons.mp hw with e | e
    · subst e
      have := numC_len (i := p) (by omega)
      exact ⟨by simp, fun w hw2 => by
        simp only [List.mem_cons, List.not_mem_nil, or_false] at hw2
        rcases hw2 with rfl | rfl
        · decide
        · omega⟩
    · obtain ⟨r, hr, rfl⟩ := List.mem_map.mp e
      obtain ⟨h1, h2, h3⟩ := hnum.road r hr
      have n1 := numC_len h1
      have n2 := numC_len h2
      have n3 := numC_len (i := r.2.2) ⟨h3.1, h3.2⟩
      exact ⟨by simp [roadWs], fun w hw2 => by
        simp only [roadWs, List.map_cons, List.map_nil, List.mem_cons, List.not_mem_nil, or_false] at hw2
        rcases hw2 with rfl | rfl | rfl | rfl
        · decide
        · omega
        · omega
        · omega⟩
  have hR := read_town_ok ok hp hl
  have hW := write_ok hnum
  generalize textOf (linesOf p rs) = T at *
  unfold S_law_k11
  refine (run_eq (E := [some (.sh false (.list (ns.map .int))), none, none, none, none, none]) rfl rfl).trans ?_
  unfold b_law_k11
  simp (disch := first | omega | assumption) [↓cCn hd, ↓cCs ht, ↓cCn hL, ↓cCs hT, -List.map_map]
  have hlr : (rs.map cRd).length < 1000000 := by rw [List.length_map]; omega
  refine cL_list (ys := List.range 2) (c := fun (i : Nat) => .int (i : Int)) (fun _ => [some (.sh false (.list (ns.map .int))), some (.sh true (.list (ds.map .int))), some (.sh true (cTown p rs)), some (.sh true (cS T)), none, none]) rfl (fun i y hi => ?_) ?_
  · have ha := fun (β : Type) (h : HX β) (k : Out → Rs β) => cO_appRgI (i := 5) (c := 1) (z := 0) (h := h) (k := k) (es := rs.map cRd) (env := [some (.sh false (.list (ns.map .int))), some (.sh true (.list (ds.map .int))), some (.sh true (cTown p rs)), some (.sh true (cS T)), some (.sh true (.int (y : Int))), some (.rg (cTown p rs))]) rfl hlr
    have hrg := fun (β : Type) (i : Nat) (e : Env) (h : HX β) (k : Out → Rs β) => rgK_s (i := i) (e := e) (h := h) (k := k) hR
    rw [turn_eq]
    unfold l1_law_k11
    simp (disch := first | omega | assumption) [hrg, ha, hrp, ↓cCs hW, -List.map_map]
  · simp (disch := first | omega | assumption) [-List.map_map]
end Dn
open PySem PySem.W PyProof.Rows
set_option maxHeartbeats 0 in
theorem PySem.Challenge.cw_evernear_k11_towns_read_back_holds : PySem.Challenge.rw_evernear_k11_towns_read_back.Holds := by
  w_on; o_law; k_head; (case hw => w_witness2)
  k_fill
  refine Dn.walk_d (l := PySem.Challenge.rw_evernear_k11_towns_read_back) (n := 63) (k := 7) (x := "script") (S := Dn.S_law_k11) rfl (by decide) rfl ⟨rfl, by decide, by decide⟩ (fun w h Y => by first | exact PySem.W.kIn_of Y | exact PySem.W.km_in_of Y) ?hF ?hK ?F Dn.law_k11_true
  case hF => intro pr; rfl
  case hK => rfl
  case F =>
    intro w mg fa h KX G hmg
    refine' Gk11.all_mk KX G hmg ?a0 ?l0 ?c0 ?k0 ?a1 ?l1 ?c1 ?k1 ?a2 ?l2 ?c2 ?k2 ?a3 ?l3 ?c3 ?k3 ?a4 ?l4 ?c4 ?k4 ?a5 ?l5 ?c5 ?k5 ?t5 ?u5 ?a6 ?l6 ?c6 ?k6 ?a7 ?l7 ?c7 ?k7 ?a8 ?l8 ?c8 ?k8 ?a9 ?l9 ?c9 ?k9 ?a10 ?l10 ?c10 ?k10 ?t10 ?u10 ?a11 ?l11 ?c11 ?k11 ?a12 ?l12 ?c12 ?k12 ?a13 ?l13 ?c13 ?k13 ?a14 ?l14 ?c14 ?k14 ?a15 ?l15 ?c15 ?k15 ?qc0 ?qc1 ?qc2 ?qc3 ?ac_BadSize ?ac_BadRoad ?ac_BadText ?ge ?ta ?cl_BadSize ?ga_BadSize ?gg_BadSize ?su_BadSize ?ca_BadSize ?ob_BadSize ?hd_BadSize ?kc_BadSize ?cl_BadRoad ?ga_BadRoad ?gg_BadRoad ?su_BadRoad ?ca_BadRoad ?ob_BadRoad ?hd_BadRoad ?kc_BadRoad ?cl_BadText ?ga_BadText ?gg_BadText ?su_BadText ?ca_BadText ?ob_BadText ?hd_BadText ?kc_BadText ?ty_BadSize ?x_BadSize ?xl_BadRoad ?rv_BadRoad ?sa_BadRoad ?ty_BadRoad ?iC_BadRoad ?tI_BadRoad ?lI_BadRoad ?cI_BadRoad ?kI_BadRoad ?no_BadRoad_at ?xl_BadText ?rv_BadText ?sa_BadText ?ty_BadText ?iC_BadText ?tI_BadText ?lI_BadText ?cI_BadText ?kI_BadText ?no_BadText_line ?no_BadText_column ?z0 ?z1 ?z2 ?z3 ?z4 ?z5 ?z6 ?z7 ?z8 ?z9
    (case a0 => k_is); (case l0 => k_is); (case c0 => k_is); (case k0 => k_is); (case a1 => k_is); (case l1 => k_is); (case c1 => k_is); (case k1 => k_is); (case a2 => k_is); (case l2 => k_is); (case c2 => k_is); (case k2 => k_is); (case a3 => k_is); (case l3 => k_is); (case c3 => k_is); (case k3 => k_is); (case a4 => k_is); (case l4 => k_is); (case c4 => k_is); (case k4 => k_is); (case a5 => k_is); (case l5 => k_is); (case c5 => k_is); (case k5 => k_is); (case t5 => k_is); (case u5 => rfl); (case a6 => k_is); (case l6 => k_is); (case c6 => k_is); (case k6 => k_is); (case a7 => k_is); (case l7 => k_is); (case c7 => k_is); (case k7 => k_is); (case a8 => k_is); (case l8 => k_is); (case c8 => k_is); (case k8 => k_is); (case a9 => k_is); (case l9 => k_is); (case c9 => k_is); (case k9 => k_is); (case a10 => k_is); (case l10 => k_is); (case c10 => k_is); (case k10 => k_is); (case t10 => k_is); (case u10 => rfl); (case a11 => k_is); (case l11 => k_is); (case c11 => k_is); (case k11 => k_is); (case a12 => k_is); (case l12 => k_is); (case c12 => k_is); (case k12 => k_is); (case a13 => k_is); (case l13 => k_is); (case c13 => k_is); (case k13 => k_is); (case a14 => k_is); (case l14 => k_is); (case c14 => k_is); (case k14 => k_is); (case a15 => k_is); (case l15 => k_is); (case c15 => k_is); (case k15 => k_is); (case qc0 => k_is); (case qc1 => k_is); (case qc2 => k_is); (case qc3 => k_is); (case ac_BadSize => k_is); (case ac_BadRoad => k_is); (case ac_BadText => k_is); (case ge => k_is); (case ta => k_is); (case cl_BadSize => k_is); (case ga_BadSize => k_is); (case gg_BadSize => k_is); (case su_BadSize => k_is); (case ca_BadSize => k_is); (case ob_BadSize => k_is); (case hd_BadSize => k_is); (case kc_BadSize => k_is); (case cl_BadRoad => k_is); (case ga_BadRoad => k_is); (case gg_BadRoad => k_is); (case su_BadRoad => k_is); (case ca_BadRoad => k_is); (case ob_BadRoad => k_is); (case hd_BadRoad => k_is); (case kc_BadRoad => k_is); (case cl_BadText => k_is); (case ga_BadText => k_is); (case gg_BadText => k_is); (case su_BadText => k_is); (case ca_BadText => k_is); (case ob_BadText => k_is); (case hd_BadText => k_is); (case kc_BadText => k_is); (case ty_BadSize => k_is); (case x_BadSize => k_exc); (case xl_BadRoad => k_is); (case rv_BadRoad => first | rfl | decide); (case sa_BadRoad => k_is); (case ty_BadRoad => k_is); (case iC_BadRoad => k_is); (case tI_BadRoad => k_is); (case lI_BadRoad => k_is); (case cI_BadRoad => k_is); (case kI_BadRoad => k_is); (case no_BadRoad_at => k_is); (case xl_BadText => k_is); (case rv_BadText => first | rfl | decide); (case sa_BadText => k_is); (case ty_BadText => k_is); (case iC_BadText => k_is); (case tI_BadText => k_is); (case lI_BadText => k_is); (case cI_BadText => k_is); (case kI_BadText => k_is); (case no_BadText_line => k_is); (case no_BadText_column => k_is); (case z0 => k_is); (case z1 => k_is); (case z2 => k_is); (case z3 => k_is); (case z4 => k_is); (case z5 => k_is); (case z6 => k_is); (case z7 => k_is); (case z8 => k_is); (case z9 => k_is)

