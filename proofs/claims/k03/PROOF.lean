import PyProof.Rows.All
import Wide.All
import OpenK.AllK
import Wide.FinOn
import PySem.Challenge.RW_lorestead_k03_terms_known
import HandS.Base
import HandS.Call
import HandS.List
import HandS.Comp
import HandS.Exc
import HandS.Ends
import HandS.Words
import KE.KDictKeyed
import HandS.Lambda
import HandS.TupAny
import HandS.IsInst
import HandS.Text
import HandS.Iter
import HandS.Wide
import HandS.Deep
import HandS.ExcOwn
import HandS.TryOnly
import HandS.WordsExc
import HandS.CallSlots
import HandS.Zip
import HandS.ExcIs
import HandS.WordsDict
import HandS.Conv
import HandS.RaiseMore
import KE.KRevSl
import PyProof.ReprRoads
import PyProof.ReprNest
import HandS.Dict
import HandS.SetBool
import HandS.SetKeys
import PyProof.NeKinds
import HandS.EndBits
import HandS.More
import PyProof.Rows.InDataRows
import PyProof.EqKinds
import KE.KDictPairs
import PyProof.Rows.SortStr
import HandS.Strs
import HandS.SetFor
import PyProof.StrLawsRepr
import PyProof.Rows.ReprOcc
import HandS.HotCalls
import PyProof.EqAt
import KE.SortData
import KE.LtData
import HandS.TupMul
import HandS.RepeatKit
import HandS.MapObj
import HandS.IterVal
import KE.KDictSum
import HandS.Sort
import HandS.DictComp
import HandS.Style
import HandS.Star
import HandS.FStr
import HandS.StrMore
import HandS.Defaults
import HandS.EndTab
import KE.GoesMore
import KE.DataMinMax
import HandS.ClsMeth
import PyProof.FitsInt
import HandS.ForExc
set_option Elab.async false
set_option linter.all false
set_option maxRecDepth 100000
set_option maxHeartbeats 8000000
/-! Px: a second, functional reading over HandS: values are data (PyData), a def is a function of its arguments' data; what it may change stands in a numbered store -/
namespace Px
open PySem PySem.Spec PyProof.Rows L2

/-! ### data that stands in the heap and no longer changes -/
def FzL (K : PySem.W.Frag) (F : Addr → Prop) (H : Hp) (a : Addr) (xs : List V) : Prop := (F a ∧ Rd H a (.lst xs)) ∨ SqL K (fun _ => none) a xs
/-- a tuple stands as a whole: it has no dict -/
def FzT (K : PySem.W.Frag) (F : Addr → Prop) (H : Hp) (a : Addr) (xs : List V) : Prop := (F a ∧ ∃ o : Obj, H a = some (.frz o (.tup xs)) ∧ o.dict = none) ∨
  ∃ (o : Obj) (its : Array Value) (n : Nat), K.lookup a = some o ∧ o.cls = .type "tuple" ∧ o.dict = none ∧ o.data = .seq its n ∧ its.size ≤ sizeLine ∧ Vals xs its.toList
def keyD : Key → PyData
  | .inl i => .int i
  | .inr x => .str x
mutual
inductive Rp (K : PySem.W.Frag) (F : Addr → Prop) (H : Hp) : V → PyData → Prop
  | non : Rp K F H .non .none
  | bl (b : Bool) : Rp K F H (.bl b) (.bool b)
  | int (i : Int) : Rp K F H (.int i) (.int i)
  | str (x : Str) : PyData.strOk x = true → Rp K F H (.str x) (.str x)
  | lst {a : Addr} {xs : List V} {ds : List PyData} : FzL K F H a xs → RpA K F H xs ds → Rp K F H (.ref a) (.list ds)
  | tup {a : Addr} {xs : List V} {ds : List PyData} : FzT K F H a xs → RpA K F H xs ds → Rp K F H (.ref a) (.tuple ds)
  | dic {a : Addr} {xs : List (Key × V)} {ds : List (PyData × PyData)} : F a → Rd H a (.dK xs) → RpD K F H xs ds → Rp K F H (.ref a) (.dict ds)
inductive RpA (K : PySem.W.Frag) (F : Addr → Prop) (H : Hp) : List V → List PyData → Prop
  | nil : RpA K F H [] []
  | cons {v : V} {vs : List V} {d : PyData} {ds : List PyData} : Rp K F H v d → RpA K F H vs ds → RpA K F H (v :: vs) (d :: ds)
inductive RpD (K : PySem.W.Frag) (F : Addr → Prop) (H : Hp) : List (Key × V) → List (PyData × PyData) → Prop
  | nil : RpD K F H [] []
  | cons {k : Key} {v : V} {vs : List (Key × V)} {d : PyData} {ds : List (PyData × PyData)} : Rp K F H v d → RpD K F H vs ds → RpD K F H ((k, v) :: vs) ((keyD k, d) :: ds)
end

/-- what is frozen stays frozen and as it is -/
def Fr (F : Addr → Prop) (H : Hp) (F' : Addr → Prop) (H' : Hp) : Prop := ∀ a, F a → F' a ∧ H' a = H a
theorem Fr.refl {F : Addr → Prop} {H : Hp} : Fr F H F H := fun _ h => ⟨h, rfl⟩
theorem Fr.trans {F F1 F2 : Addr → Prop} {H H1 H2 : Hp} (x : Fr F H F1 H1) (y : Fr F1 H1 F2 H2) : Fr F H F2 H2 := fun a h => ⟨(y a (x a h).1).1, (y a (x a h).1).2.trans (x a h).2⟩
section
variable {K : PySem.W.Frag} {F F' : Addr → Prop} {H H' : Hp}
theorem Fr.rd {a : Addr} {u : HO} (e : Fr F H F' H') (h : F a) (r : Rd H a u) : Rd H' a u := by
  have e2 := (e a h).2
  rcases r with r | ⟨o, r⟩
  · exact .inl (e2.trans r)
  · exact .inr ⟨o, e2.trans r⟩
theorem FzL.mono {a : Addr} {xs : List V} (e : Fr F H F' H') (h : FzL K F H a xs) : FzL K F' H' a xs := by
  rcases h with ⟨f, h⟩ | h
  · exact .inl ⟨(e a f).1, e.rd f h⟩
  · exact .inr h
theorem FzT.mono {a : Addr} {xs : List V} (e : Fr F H F' H') (h : FzT K F H a xs) : FzT K F' H' a xs := by
  rcases h with ⟨f, o, h, d⟩ | h
  · exact .inl ⟨(e a f).1, o, (e a f).2.trans h, d⟩
  · exact .inr h
theorem FzL.sq {a : Addr} {xs : List V} (h : FzL K F H a xs) : SqL K H a xs := by
  rcases h with ⟨f, h⟩ | h
  · exact .inl h
  · rcases h with (h | ⟨_, h⟩) | h
    · cases h
    · cases h
    · exact .inr h
theorem FzT.sq {a : Addr} {xs : List V} (h : FzT K F H a xs) : SqT K H a xs := by
  rcases h with ⟨f, o, h, _⟩ | ⟨o, its, n, h1, h2, _, h3, h4, h5⟩
  · exact .inl (.inr ⟨o, h⟩)
  · exact .inr ⟨o, its, n, h1, h2, h3, h4, h5⟩
mutual
theorem Rp.mono (e : Fr F H F' H') : ∀ (d : PyData) (v : V), Rp K F H v d → Rp K F' H' v d
  | .none, _, h => by cases h; exact .non
  | .bool b, _, h => by cases h; exact .bl b
  | .int i, _, h => by cases h; exact .int i
  | .str x, _, h => by
    cases h with
    | str _ k => exact .str x k
  | .list ds, _, h => by
    cases h with
    | lst f r => exact .lst (f.mono e) (RpA.mono e ds _ r)
  | .tuple ds, _, h => by
    cases h with
    | tup f r => exact .tup (f.mono e) (RpA.mono e ds _ r)
  | .dict ds, _, h => by
    cases h with
    | dic f r q => exact .dic (e _ f).1 (e.rd f r) (RpD.mono e ds _ q)
theorem RpA.mono (e : Fr F H F' H') : ∀ (ds : List PyData) (vs : List V), RpA K F H vs ds → RpA K F' H' vs ds
  | [], _, h => by cases h; exact .nil
  | d :: ds, _, h => by
    cases h with
    | cons a b => exact .cons (Rp.mono e d _ a) (RpA.mono e ds _ b)
theorem RpD.mono (e : Fr F H F' H') : ∀ (ds : List (PyData × PyData)) (vs : List (Key × V)), RpD K F H vs ds → RpD K F' H' vs ds
  | [], _, h => by cases h; exact .nil
  | (k, d) :: ds, _, h => by
    cases h with
    | cons a b => exact .cons (Rp.mono e d _ a) (RpD.mono e ds _ b)
end
theorem Rp.up {v : V} {d : PyData} (h : Rp K F H v d) (e : Fr F H F' H') : Rp K F' H' v d := Rp.mono e d v h
theorem RpA.up {v : List V} {d : List PyData} (h : RpA K F H v d) (e : Fr F H F' H') : RpA K F' H' v d := RpA.mono e d v h
theorem RpD.up {v : List (Key × V)} {d : List (PyData × PyData)} (h : RpD K F H v d) (e : Fr F H F' H') : RpD K F' H' v d := RpD.mono e d v h
theorem RpA.length : ∀ {vs : List V} {ds : List PyData}, RpA K F H vs ds → vs.length = ds.length
  | _, _, .nil => rfl
  | _, _, .cons _ r => congrArg (· + 1) (RpA.length r)
theorem RpA.get : ∀ {vs : List V} {ds : List PyData} {i : Nat} {d : PyData}, RpA K F H vs ds → ds[i]? = some d → ∃ v, vs[i]? = some v ∧ Rp K F H v d
  | _, _, _, _, .nil, e => by simp at e
  | _, _, 0, _, .cons a _, e => by simp at e; subst e; exact ⟨_, rfl, a⟩
  | _, _, i + 1, d, .cons _ r, e => by
    obtain ⟨v, h1, h2⟩ := RpA.get (i := i) (d := d) r (by simpa using e)
    exact ⟨v, by simpa using h1, h2⟩
theorem RpA.append : ∀ {vs ws : List V} {ds es : List PyData}, RpA K F H vs ds → RpA K F H ws es → RpA K F H (vs ++ ws) (ds ++ es)
  | _, _, _, _, .nil, s => s
  | _, _, _, _, .cons a r, s => .cons a (RpA.append r s)
theorem RpA.take : ∀ {vs : List V} {ds : List PyData} (n : Nat), RpA K F H vs ds → RpA K F H (vs.take n) (ds.take n)
  | _, _, 0, _ => .nil
  | _, _, _ + 1, .nil => .nil
  | _, _, n + 1, .cons a r => .cons a (RpA.take n r)
theorem RpA.drop : ∀ {vs : List V} {ds : List PyData} (n : Nat), RpA K F H vs ds → RpA K F H (vs.drop n) (ds.drop n)
  | _, _, 0, r => r
  | _, _, _ + 1, .nil => .nil
  | _, _, n + 1, .cons _ r => RpA.drop n r
theorem RpA.set {v : V} {d : PyData} (r : Rp K F H v d) : ∀ {vs : List V} {ds : List PyData} (i : Nat), RpA K F H vs ds → RpA K F H (vs.set i v) (ds.set i d)
  | _, _, _, .nil => .nil
  | _, _, 0, .cons _ t => .cons r t
  | _, _, i + 1, .cons q t => .cons q (RpA.set r i t)
theorem RpA.reverse {vs : List V} {ds : List PyData} (r : RpA K F H vs ds) : RpA K F H vs.reverse ds.reverse := by
  induction vs generalizing ds with
  | nil => cases r; exact .nil
  | cons v vs ih =>
    cases r with
    | cons a b =>
      rw [List.reverse_cons, List.reverse_cons]
      exact (ih b).append (.cons a .nil)
theorem RpA.mem {vs : List V} {ds : List PyData} {v : V} (r : RpA K F H vs ds) (h : v ∈ vs) : ∃ d ∈ ds, Rp K F H v d := by
  induction vs generalizing ds with
  | nil => cases h
  | cons w vs ih =>
    cases r with
    | cons a b =>
      rcases List.mem_cons.mp h with e | h
      · subst e; exact ⟨_, List.mem_cons_self, a⟩
      · obtain ⟨d, h1, h2⟩ := ih b h
        exact ⟨d, List.mem_cons_of_mem _ h1, h2⟩
end

/-! ### the store, the slots -/
inductive MO where
  | lst (xs : List PyData)
  | dic (kvs : List (PyData × PyData))
  /-- an instance of the class of this name: the fields of it, data -/
  | ins (t : Str) (fs : List (Str × PyData))
def MO.dat : MO → Option PyData
  | .lst xs => some (.list xs)
  | .dic kvs => some (.dict kvs)
  | .ins _ _ => none
inductive Cell where
  | live (o : MO)
  | io (o : MO)
  | fz (d : PyData)
  /-- a dict whose keys are tuples; none: the table of the code objects of the def's own lambdas -/
  | kd (kvs : Option (List (PyData × PyData)))
def Cell.dat : Cell → Option PyData
  | .live o => o.dat
  | .io o => o.dat
  | .fz d => some d
  | .kd _ => none
structure Exn where
  nm : String
  num : Option PyData := none
inductive Sl where
  | non
  | val (d : PyData)
  | ref (n : Nat)
  | hot (x : Exn)
abbrev Sls := List Sl
abbrev Sto := List Cell
/-- what an expression gives: data; a thing of the store; a new thing -/
inductive EV where
  | val (d : PyData)
  | bor (n : Nat)
  | new (o : MO)
  /-- a new instance that is not kept -/
  | lost
def EV.dat (st : Sto) : EV → Option PyData
  | .val d => some d
  | .bor n => st[n]?.bind Cell.dat
  | .new o => o.dat
  | .lost => none
inductive Re (α : Type) where
  | fail
  | ok (a : α) (st : Sto)
  | exc (x : Exn) (st : Sto)
inductive RS where
  | fail
  | nx (sl : Sls) (st : Sto)
  | rt (d : PyData) (st : Sto)
  | rn (o : MO) (st : Sto)
  | bk (sl : Sls) (st : Sto)
  | ct (sl : Sls) (st : Sto)
  | exc (x : Exn) (sl : Sls) (st : Sto)
abbrev FE := Sls → Sto → Re EV
abbrev FT := Sls → Sto → Re Bool
abbrev FA := Sls → Sto → Re (List EV)
abbrev FS := Sls → Sto → RS

/-- the exceptions' classes by name; the exception that is handled -/
structure Gx where
  tab : String → Option Addr
  hot : Addr := 0
  hx : Exn := ⟨"", none⟩
  wd : Option World := none
  tb : Option (Addr × Str) := none
/-! ### dicts whose keys are tuples -/
mutual
def keyN : PyData → Option NestedKey
  | .none => some .none
  | .int i => some (.num i)
  | .str x => some (.text x)
  | .tuple ds => (keyNs ds).map .tup
  | .bool _ | .list _ | .dict _ => none
def keyNs : List PyData → Option (List NestedKey)
  | [] => some []
  | d :: ds => match keyN d, keyNs ds with
    | some k, some ks => some (k :: ks)
    | _, _ => none
end
/-- the dict itself: its entries, whatever its keys' tuples are -/
def KdO (w : World) (p : Addr) (xs : List (NestedKey × Addr × Value)) : HO := .ext fun h => (p == sysModules) = false ∧ ∃ o es ep, h.get? p = some o ∧ o.ExactDict ∧ o.data = .dict es ep ∧ es.toList = xs.map fun x => ⟨x.1.hash w, .ref x.2.1, x.2.2⟩
inductive KdX (K : PySem.W.Frag) (F : Addr → Prop) (H : Hp) : List (NestedKey × Addr × Value) → List (PyData × PyData) → Prop
  | nil : KdX K F H [] []
  | cons {k : NestedKey} {a : Addr} {u : Value} {v : V} {kd vd : PyData} {xs : List (NestedKey × Addr × Value)} {kvs : List (PyData × PyData)} : keyN kd = some k → k.depth ≤ 8 → Rp K F H (.ref a) kd → RelV v u → Rp K F H v vd → KdX K F H xs kvs → KdX K F H ((k, a, u) :: xs) ((kd, vd) :: kvs)
def KdR (g : Gx) (K : PySem.W.Frag) (F : Addr → Prop) (H : Hp) (p : Addr) (kvs : List (PyData × PyData)) : Prop := ∃ w xs, g.wd = some w ∧ H p = some (KdO w p xs) ∧ KdX K F H xs kvs ∧ (xs.map (·.1)).Nodup
theorem KdX.mono {K : PySem.W.Frag} {F F' : Addr → Prop} {H H' : Hp} (e : Fr F H F' H') : ∀ {xs : List (NestedKey × Addr × Value)} {kvs : List (PyData × PyData)}, KdX K F H xs kvs → KdX K F' H' xs kvs
  | _, _, .nil => .nil
  | _, _, .cons h1 h2 h3 h4 h5 r => .cons h1 h2 (h3.up e) h4 (h5.up e) (r.mono e)
/-- what is fixed through a def: the written part, the heap and what is frozen at the entry, the things handed in that may change, the exceptions' classes -/
structure Bs where
  K : PySem.W.Frag
  H0 : Hp
  F0 : Addr → Prop
  io : List Addr
  ct : Gx
  pr : List Addr
structure Wd where
  F : Addr → Prop
  ad : List Addr
def FlR (K : PySem.W.Frag) (F : Addr → Prop) (H : Hp) : List (Str × V) → List (Str × PyData) → Prop := Paired fun v d => v.1 = d.1 ∧ Rp K F H v.2 d.2
def MOR (K : PySem.W.Frag) (F : Addr → Prop) (H : Hp) (p : Addr) : MO → Prop
  | .lst xs => ∃ vs, H p = some (.lst vs) ∧ RpA K F H vs xs
  | .dic kvs => ∃ vs, H p = some (.dK vs) ∧ RpD K F H vs kvs
  | .ins t fs => ∃ C dx vs, PySem.W.nsIn K mainGlobals t = some (some (.ref C)) ∧ H p = some (.ins C dx vs) ∧ FlR K F H vs fs
theorem FlR.up {K : PySem.W.Frag} {F F' : Addr → Prop} {H H' : Hp} (e : Fr F H F' H') : ∀ {vs : List (Str × V)} {fs : List (Str × PyData)}, FlR K F H vs fs → FlR K F' H' vs fs
  | _, _, .nil => .nil
  | _, _, .cons a r => .cons ⟨a.1, a.2.up e⟩ (FlR.up e r)
/-- the table of a def's own lambdas: each code object that it tells bears their name, and stays -/
def TbR (g : Gx) (F : Addr → Prop) (H : Hp) (p : Addr) : Prop := ¬ F p ∧ ∃ q ps, g.tb = some (p, q) ∧ H p = some (.tbl ps) ∧ TriplesOk ps.toList ∧ ∀ pos cv, codeAmong pos ps.toList = some cv → ∃ c, cv = .ref c ∧ F c ∧ H c = some (LamX.CodeO c q)
def CellR (g : Gx) (K : PySem.W.Frag) (F : Addr → Prop) (H : Hp) (p : Addr) : Cell → Prop
  | .live o => ¬ F p ∧ MOR K F H p o
  | .io o => ¬ F p ∧ MOR K F H p o
  | .fz d => Rp K F H (.ref p) d
  | .kd (some kvs) => ¬ F p ∧ KdR g K F H p kvs
  | .kd none => TbR g F H p
def SlR (K : PySem.W.Frag) (F : Addr → Prop) (ad : List Addr) (g : Gx) (H : Hp) (v : Option (Option V)) : Sl → Prop
  | .non => True
  | .val d => ∃ x, v = some (some x) ∧ Rp K F H x d
  | .ref n => ∃ p, ad[n]? = some p ∧ v = some (some (.ref p))
  | .hot x => v = some (some (.ref g.hot)) ∧ x = g.hx
structure SR (B : Bs) (ω : Wd) (H : Hp) (σ : L2.St) (sl : Sls) (st : Sto) : Prop where
  len : σ.length = sl.length
  dom : ∀ a, ω.F a → H a ≠ none
  keep : ∀ a o, B.H0 a = some o → a ∉ B.io → H a = some o
  newF : ∀ a, ω.F a → B.F0 a ∨ B.H0 a = none
  oldF : ∀ a, B.F0 a → ω.F a
  adl : ω.ad.length = st.length
  nd : ω.ad.Nodup
  iop : B.io <+: ω.ad
  adn : ∀ p ∈ ω.ad, p ∈ B.io ∨ B.H0 p = none
  ioc : ∀ (n : Nat) (c : Cell), n < B.io.length → st[n]? = some c → ∃ o, c = .io o
  ioc2 : ∀ (n : Nat) (o : MO), st[n]? = some (.io o) → n < B.io.length
  there : ∀ p ∈ ω.ad, H p ≠ none
  prF : ∀ p ∈ B.pr, ¬ ω.F p
  prA : ∀ p ∈ B.pr, p ∉ ω.ad
  prH : ∀ p ∈ B.pr, H p ≠ none
  slot : ∀ (i : Nat) (s : Sl), sl[i]? = some s → SlR B.K ω.F ω.ad B.ct H σ[i]? s
  cell : ∀ (n : Nat) (c : Cell) (p : Addr), st[n]? = some c → ω.ad[n]? = some p → CellR B.ct B.K ω.F H p c
structure Ext (B : Bs) (ω : Wd) (H : Hp) (ω' : Wd) (H' : Hp) : Prop where
  fr : Fr ω.F H ω'.F H'
  ad : ω.ad <+: ω'.ad
  pr : ∀ p ∈ B.pr, H' p = H p
theorem Ext.refl {B : Bs} {ω : Wd} {H : Hp} : Ext B ω H ω H := ⟨Fr.refl, List.prefix_refl _, fun _ _ => rfl⟩
theorem Ext.trans {B : Bs} {ω ω1 ω2 : Wd} {H H1 H2 : Hp} (x : Ext B ω H ω1 H1) (y : Ext B ω1 H1 ω2 H2) : Ext B ω H ω2 H2 := ⟨x.fr.trans y.fr, x.ad.trans y.ad, fun p h => (y.pr p h).trans (x.pr p h)⟩
def VR (B : Bs) (ω : Wd) (H : Hp) (v : V) : EV → Prop
  | .val d => Rp B.K ω.F H v d
  | .bor n => ∃ p, ω.ad[n]? = some p ∧ v = .ref p
  | .new o => ∃ p, v = .ref p ∧ p ∉ ω.ad ∧ (B.H0 p = none ∧ p ∉ B.pr) ∧ ¬ ω.F p ∧ MOR B.K ω.F H p o
  | .lost => True
/-- an own exception without anything of its own: its class -/
def ExR (B : Bs) (x : Exn) (cls : Value) (d : Option Addr) (H : Hp) : Prop := ∃ C, B.ct.tab x.nm = some C ∧ cls = .ref C ∧ d = none ∧ x.num = none
end Px
/-! PxA1: tuples that are made, known as whole objects -/
namespace Px
open PySem PySem.Spec PyProof.Rows L2
/-- a new tuple -/
def NewT (H : Hp) (xs : List V) (Q : VK) : Prop := ∀ (p : Addr) (o : Obj), H p = none → o.dict = none → Q (.ref p) (upd H p (.frz o (.tup xs)))
section
variable {X : Cx} {pins : List (Addr × Obj)} {σ : L2.St} {H : Hp} {s : Shared} {Q : VK} {xs : List V} {its : List Value}
/-- the heap with a tuple put behind it -/
theorem new_tup {g : Array GenState} {dr : Drawn} {t : Nat} {os : OsState} {h' : Heap} (I : L2.Inv X pins σ H ⟨h', g, dr, t, os⟩) (r : Vals xs its) (hz : xs.length ≤ sizeLine) (q : NewT H xs Q) (tk : Nat) : EP X pins σ Q (.ref h'.objs.size) ⟨h'.push { cls := .type "tuple", data := .seq its.toArray }, g, dr, tk, os⟩ := by
  have hn : H h'.objs.size = none := I.hok.fresh (Nat.le_refl _)
  refine ⟨.ref h'.objs.size, upd H h'.objs.size (.frz { cls := .type "tuple", data := .seq its.toArray } (.tup xs)), I.laid (t' := tk) (fun b o e => Heap.get?_push_of_some _ e) (Nat.le_refl _) ?_, rfl, q _ _ hn rfl⟩
  exact ⟨Heap.get?_push_size _ rfl, hz, its, r, IsTup.new _ _⟩
end
section
variable {X : Cx}
theorem pe_tupF {es : List Expr} {t : TA} {x1 : Nat} {pos : Pos} (h : PA X es t) : PE X (.Tuple es x1 pos) (fun σ H Q => t σ H fun xs H1 => xs.length ≤ sizeLine ∧ NewT H1 xs Q) := by
  refine ⟨fun pins s σ H Q I hq => ?_⟩
  refine wpAny_Tuple_spliced (thn (h.run pos pins s σ H _ I hq) fun us s1 ⟨xs, H1, I1, r, z, q⟩ => ⟨by rw [← r.length]; exact z, ?_⟩)
  obtain ⟨h1, g1, d1, t1, o1⟩ := s1
  exact new_tup I1 r z q t1
theorem op_catF : OpR X (binaryOp .Add) (fun x y H Q => ∃ a b xs ys, x = .ref a ∧ y = .ref b ∧ SqT X.K H a xs ∧ SqT X.K H b ys ∧ xs.length + ys.length ≤ sizeLine ∧ (xs = [] → Q (.ref b) H) ∧ (xs ≠ [] → ys = [] → Q (.ref a) H) ∧ (xs ≠ [] → ys ≠ [] → NewT H (xs ++ ys) Q)) := by
  intro pins s σ H x y v u Q I rx ry h
  obtain ⟨a, b, xs, ys, rfl, rfl, ha, hb, hz, q0, q1, q2⟩ := h
  cases (show v = Value.ref a from rx)
  cases (show u = Value.ref b from ry)
  obtain ⟨its, r1, p1, _⟩ := I.tuple ha
  obtain ⟨its2, r2, p2, _⟩ := I.tuple hb
  by_cases hx : xs = []
  · subst hx
    cases r1
    exact cat_tup0 p1 p2 ⟨.ref b, H, I, rfl, q0 rfl⟩
  · refine HT.cat_tup p1 p2 (fun z => hx (r1.nil_iff.mp z)) (fun z => ⟨.ref a, H, I, rfl, q1 hx (r2.nil_iff.mp z)⟩) (fun z => ?_) (by rw [← r1.length, ← r2.length]; exact hz)
    obtain ⟨h1, g1, d1, t1, o1⟩ := s
    exact new_tup I (r1.append r2) (by rw [List.length_append]; exact hz) (q2 hx fun w => z (r2.nil_iff.mpr w)) t1
theorem sl_tupF : L2.SlR X (fun x lo hi H Q => ∃ a xs, x = .ref a ∧ SqT X.K H a xs ∧ (HT.sIx xs.length 0 lo = 0 ∧ HT.sIx xs.length xs.length hi = xs.length → Q (.ref a) H) ∧ (¬ (HT.sIx xs.length 0 lo = 0 ∧ HT.sIx xs.length xs.length hi = xs.length) → NewT H (cutV xs lo hi) Q)) := by
  intro pins s σ H x v vl vu lo hi sl Q I rx hs pl pu h
  obtain ⟨a, xs, rfl, hx, q1, q2⟩ := h
  by_cases hw : HT.sIx xs.length 0 lo = 0 ∧ HT.sIx xs.length xs.length hi = xs.length
  · exact sl_tupA pins s σ H _ v vl vu lo hi sl Q I rx hs pl pu ⟨a, xs, rfl, hx, q1, fun z => absurd hw z⟩
  · cases (show v = Value.ref a from rx)
    obtain ⟨its, r, ht, hz⟩ := I.tuple hx
    have hlen : its.toArray.size = xs.length := by rw [List.size_toArray]; exact r.length.symm
    refine ⟨"tuple", _, PyProof.Rows.slot_tuple_getitem.lookup, ht.typeIs, ?_⟩
    refine HT.getItem_tuple_cut ht hs pl pu (by rw [hlen]; exact hw) ?_ (by rw [hlen]; exact hz)
    rw [hlen]
    obtain ⟨h1, g1, d1, t1, o1⟩ := s
    exact new_tup I ((r.drop (HT.sIx xs.length 0 lo)).take (HT.sIx xs.length xs.length hi - HT.sIx xs.length 0 lo)) (Nat.le_trans (cutV_length xs lo hi) hz) (q2 hw) t1
theorem call_tuple_F : CallR X (.type "tuple") (fun xs H Q => ∃ p ys, xs = [.ref p] ∧ ((SqL X.K H p ys ∧ NewT H ys Q) ∨ (SqT X.K H p ys ∧ Q (.ref p) H))) := by
  intro pins s σ H xs us Q I r h
  obtain ⟨p, ys, rfl, h⟩ := h
  rcases h with ⟨hq, q⟩ | ⟨hq, q⟩
  · obtain ⟨u, rfl, rx⟩ := vals1 r
    cases (show u = Value.ref p from rx)
    obtain ⟨its, r', pl, hz⟩ := I.list hq
    have hlen := r'.length
    refine call_tuple_list pl.isList (fun h' kp => ?_) (by simp only [List.size_toArray] <;> omega)
    have I1 : L2.Inv X pins σ H { s with heap := h' } := I.kept (t' := s.toks) kp
    obtain ⟨h1, g1, d1, t1, o1⟩ := s
    exact new_tup I1 r' hz q t1
  · exact call_tuple_of pins s σ H _ us Q I r ⟨p, ys, rfl, .inr ⟨hq, q⟩⟩
end
end Px
namespace Px
open PySem PySem.Spec PyProof.Rows L2

/-! ### what is seen of a thing for a moment -/
inductive Bp (K : PySem.W.Frag) (F : Addr → Prop) (H : Hp) : V → PyData → Prop
  | rp {v : V} {d : PyData} : Rp K F H v d → Bp K F H v d
  | lst {p : Addr} {vs : List V} {xs : List PyData} : H p = some (.lst vs) → RpA K F H vs xs → Bp K F H (.ref p) (.list xs)
  | dic {p : Addr} {vs : List (Key × V)} {xs : List (PyData × PyData)} : H p = some (.dK vs) → RpD K F H vs xs → Bp K F H (.ref p) (.dict xs)
section
variable {K : PySem.W.Frag} {F : Addr → Prop} {H : Hp} {v : V}
theorem Bp.int_ {i : Int} (h : Bp K F H v (.int i)) : v = .int i := by
  cases h with
  | rp h => cases h; rfl
theorem Bp.str_ {i : Str} (h : Bp K F H v (.str i)) : v = .str i := by
  cases h with
  | rp h => cases h; rfl
theorem Bp.ok_ {i : Str} (h : Bp K F H v (.str i)) : PyData.strOk i = true := by
  cases h with
  | rp h =>
    cases h with
    | str _ k => exact k
theorem Bp.bl_ {i : Bool} (h : Bp K F H v (.bool i)) : v = .bl i := by
  cases h with
  | rp h => cases h; rfl
theorem Bp.non_ (h : Bp K F H v .none) : v = .non := by
  cases h with
  | rp h => cases h; rfl
theorem Bp.list_ {ds : List PyData} (h : Bp K F H v (.list ds)) : ∃ a vs, v = .ref a ∧ SqL K H a vs ∧ RpA K F H vs ds := by
  cases h with
  | rp h =>
    cases h with
    | lst f r => exact ⟨_, _, rfl, f.sq, r⟩
  | lst h r => exact ⟨_, _, rfl, .of h, r⟩
theorem Bp.tup_ {ds : List PyData} (h : Bp K F H v (.tuple ds)) : ∃ a vs, v = .ref a ∧ SqT K H a vs ∧ RpA K F H vs ds := by
  cases h with
  | rp h =>
    cases h with
    | tup f r => exact ⟨_, _, rfl, f.sq, r⟩
theorem Bp.dic_ {ds : List (PyData × PyData)} (h : Bp K F H v (.dict ds)) : ∃ a vs, v = .ref a ∧ Rd H a (.dK vs) ∧ RpD K F H vs ds := by
  cases h with
  | rp h =>
    cases h with
    | dic f r q => exact ⟨_, _, rfl, r, q⟩
  | dic h r => exact ⟨_, _, rfl, .of h, r⟩
end

/-! ### nothing that stood is changed -/
structure PEx (F : Addr → Prop) (H : Hp) (F' : Addr → Prop) (H' : Hp) : Prop where
  mono : ∀ a, F a → F' a
  keep : ∀ a, H a ≠ none → H' a = H a
  new : ∀ a, F' a → F a ∨ H a = none
  dom : ∀ a, F' a → H' a ≠ none
theorem PEx.fr {F F' : Addr → Prop} {H H' : Hp} (x : PEx F H F' H') (d : ∀ a, F a → H a ≠ none) : Fr F H F' H' := fun a h => ⟨x.mono a h, x.keep a (d a h)⟩
theorem PEx.refl {F : Addr → Prop} {H : Hp} (d : ∀ a, F a → H a ≠ none) : PEx F H F H := ⟨fun _ h => h, fun _ _ => rfl, fun _ h => .inl h, d⟩
theorem PEx.trans {F F1 F2 : Addr → Prop} {H H1 H2 : Hp} (x : PEx F H F1 H1) (y : PEx F1 H1 F2 H2) : PEx F H F2 H2 where
  mono := fun a h => y.mono a (x.mono a h)
  keep := fun a h => by
    have e := x.keep a h
    rw [← e]
    exact y.keep a (by rw [e]; exact h)
  new := fun a h => by
    rcases y.new a h with q | q
    · exact x.new a q
    · cases e : H a with
      | none => exact .inr rfl
      | some o =>
        have := x.keep a (by rw [e]; intro z; cases z)
        rw [q, e] at this; cases this
  dom := y.dom
theorem upd_some {H : Hp} {p : Addr} {o : HO} {a : Addr} (h : H a ≠ none) : upd H p o a ≠ none := by
  unfold upd
  split
  · intro z; cases z
  · exact h
/-- a new thing, frozen -/
theorem PEx.frz {F : Addr → Prop} {H : Hp} {p : Addr} {o : HO} (d : ∀ a, F a → H a ≠ none) (hp : H p = none) : PEx F H (fun a => F a ∨ a = p) (upd H p o) where
  mono := fun a h => .inl h
  keep := fun a h => upd_ne fun e => h (e ▸ hp)
  new := fun a h => h.imp_right fun e => by rw [e]; exact hp
  dom := fun a h => by
    rcases h with h | h
    · exact upd_some (d a h)
    · subst h; rw [upd_same]; intro z; cases z
/-- a new thing, not frozen -/
theorem PEx.neu {F : Addr → Prop} {H : Hp} {p : Addr} {o : HO} (d : ∀ a, F a → H a ≠ none) (hp : H p = none) : PEx F H F (upd H p o) where
  mono := fun a h => h
  keep := fun a h => upd_ne fun e => h (e ▸ hp)
  new := fun a h => .inl h
  dom := fun a h => upd_some (d a h)

section
variable {B : Bs} {ω ω' : Wd} {H H' : Hp} {σ : L2.St} {sl : Sls} {st : Sto} {v : V} {ev : EV}
theorem CellR.up {g : Gx} {K : PySem.W.Frag} {F F' : Addr → Prop} {p : Addr} (e : Fr F H F' H') (k : H p ≠ none → ¬ F p → H' p = H p ∧ ¬ F' p) : ∀ {c : Cell}, CellR g K F H p c → CellR g K F' H' p c
  | .live (.lst xs), ⟨h, vs, q, r⟩ => ⟨(k (by rw [q]; intro z; cases z) h).2, vs, ((k (by rw [q]; intro z; cases z) h).1).trans q, r.up e⟩
  | .live (.dic xs), ⟨h, vs, q, r⟩ => ⟨(k (by rw [q]; intro z; cases z) h).2, vs, ((k (by rw [q]; intro z; cases z) h).1).trans q, r.up e⟩
  | .live (.ins _ _), ⟨h, C, dx, vs, c, q, r⟩ => ⟨(k (by rw [q]; intro z; cases z) h).2, C, dx, vs, c, ((k (by rw [q]; intro z; cases z) h).1).trans q, r.up e⟩
  | .io (.lst xs), ⟨h, vs, q, r⟩ => ⟨(k (by rw [q]; intro z; cases z) h).2, vs, ((k (by rw [q]; intro z; cases z) h).1).trans q, r.up e⟩
  | .io (.dic xs), ⟨h, vs, q, r⟩ => ⟨(k (by rw [q]; intro z; cases z) h).2, vs, ((k (by rw [q]; intro z; cases z) h).1).trans q, r.up e⟩
  | .io (.ins _ _), ⟨h, C, dx, vs, c, q, r⟩ => ⟨(k (by rw [q]; intro z; cases z) h).2, C, dx, vs, c, ((k (by rw [q]; intro z; cases z) h).1).trans q, r.up e⟩
  | .fz d, h => Rp.up h e
  | .kd none, ⟨h, q, ps, t0, t1, t2, t3⟩ => ⟨(k (by rw [t1]; intro z; cases z) h).2, q, ps, t0, ((k (by rw [t1]; intro z; cases z) h).1).trans t1, t2, fun pos cv z => by
      obtain ⟨c, e1, e2, e3⟩ := t3 pos cv z
      exact ⟨c, e1, (e _ e2).1, ((e _ e2).2).trans e3⟩⟩
  | .kd (some kvs), ⟨h, w, xs, q1, q2, q3, q4⟩ => ⟨(k (by rw [q2]; intro z; cases z) h).2, w, xs, q1, ((k (by rw [q2]; intro z; cases z) h).1).trans q2, q3.mono e, q4⟩
theorem SlR.up {K : PySem.W.Frag} {F F' : Addr → Prop} {ad ad' : List Addr} {g : Gx} {x : Option (Option V)} (e : Fr F H F' H') (p : ad <+: ad') : ∀ {s : Sl}, SlR K F ad g H x s → SlR K F' ad' g H' x s
  | .hot _, h => h
  | .non, _ => trivial
  | .val d, ⟨y, h, r⟩ => ⟨y, h, r.up e⟩
  | .ref n, ⟨q, h, r⟩ => ⟨q, by
      obtain ⟨t, rfl⟩ := p
      rw [List.getElem?_append_left (List.getElem?_eq_some_iff.mp h).1]
      exact h, r⟩
theorem SR.pure (s : SR B ω H σ sl st) {F' : Addr → Prop} (x : PEx ω.F H F' H') : SR B ⟨F', ω.ad⟩ H' σ sl st where
  len := s.len
  dom := x.dom
  keep := fun a o e h => by
    have := s.keep a o e h
    rw [x.keep a (by rw [this]; intro z; cases z)]
    exact this
  newF := fun a h => by
    rcases x.new a h with h | h
    · exact s.newF a h
    · cases e : B.H0 a with
      | none => exact .inr rfl
      | some o =>
        by_cases hi : a ∈ B.io
        · exact absurd h (s.there a (s.iop.subset hi))
        · rw [s.keep a o e hi] at h; cases h
  oldF := fun a h => x.mono a (s.oldF a h)
  adl := s.adl
  nd := s.nd
  iop := s.iop
  adn := s.adn
  ioc := s.ioc
  ioc2 := s.ioc2
  there := fun p hp => by rw [x.keep p (s.there p hp)]; exact s.there p hp
  prF := fun p hp h => (x.new p h).elim (s.prF p hp) (s.prH p hp)
  prA := s.prA
  prH := fun p hp => by rw [x.keep p (s.prH p hp)]; exact s.prH p hp
  slot := fun i t h => (s.slot i t h).up (x.fr s.dom) (List.prefix_refl _)
  cell := fun n c p h1 h2 => (s.cell n c p h1 h2).up (x.fr s.dom) fun h3 h4 => ⟨x.keep p h3, fun z => (x.new p z).elim h4 h3⟩
theorem SR.px (s : SR B ω H σ sl st) {F' : Addr → Prop} (x : PEx ω.F H F' H') : Ext B ω H ⟨F', ω.ad⟩ H' := ⟨x.fr s.dom, List.prefix_refl _, fun p hp => x.keep p (s.prH p hp)⟩
/-- what is new to the heap is new to all -/
theorem SR.fresh (s : SR B ω H σ sl st) {p : Addr} (h : H p = none) : p ∉ ω.ad ∧ (B.H0 p = none ∧ p ∉ B.pr) ∧ ¬ ω.F p := by
  have h1 : p ∉ ω.ad := fun hp => s.there p hp h
  refine ⟨h1, ⟨?_, fun z => s.prH p z h⟩, fun z => s.dom p z h⟩
  cases e : B.H0 p with
  | none => rfl
  | some o =>
    have hi : p ∉ B.io := fun hi => h1 (s.iop.subset hi)
    rw [s.keep p o e hi] at h; cases h
theorem MOR.rp {K : PySem.W.Frag} {F : Addr → Prop} {p : Addr} (d : F p) : ∀ {o : MO} {z : PyData}, o.dat = some z → MOR K F H p o → Rp K F H (.ref p) z
  | .lst xs, _, e, ⟨vs, h, r⟩ => by cases e; exact .lst (.inl ⟨d, .of h⟩) r
  | .dic xs, _, e, ⟨vs, h, r⟩ => by cases e; exact .dic d (.of h) r
  | .ins _ _, _, e, _ => nomatch e
theorem MOR.up {K : PySem.W.Frag} {F F' : Addr → Prop} {p : Addr} (e : Fr F H F' H') (k : H' p = H p) : ∀ {o : MO}, MOR K F H p o → MOR K F' H' p o
  | .lst xs, ⟨vs, h, r⟩ => ⟨vs, k.trans h, r.up e⟩
  | .dic xs, ⟨vs, h, r⟩ => ⟨vs, k.trans h, r.up e⟩
  | .ins _ _, ⟨C, dx, vs, c, h, r⟩ => ⟨C, dx, vs, c, k.trans h, r.up e⟩
theorem MOR.bp {K : PySem.W.Frag} {F : Addr → Prop} {p : Addr} : ∀ {o : MO} {z : PyData}, o.dat = some z → MOR K F H p o → Bp K F H (.ref p) z
  | .lst xs, _, e, ⟨vs, h, r⟩ => by cases e; exact .lst h r
  | .dic xs, _, e, ⟨vs, h, r⟩ => by cases e; exact .dic h r
  | .ins _ _, _, e, _ => nomatch e
theorem MOR.some {K : PySem.W.Frag} {F : Addr → Prop} {p : Addr} : ∀ {o : MO}, MOR K F H p o → H p ≠ none
  | .lst xs, ⟨vs, h, r⟩ => by rw [h]; intro z; cases z
  | .dic xs, ⟨vs, h, r⟩ => by rw [h]; intro z; cases z
  | .ins _ _, ⟨C, dx, vs, c, h, r⟩ => by rw [h]; intro z; cases z
theorem VR.bp (s : SR B ω H σ sl st) {d : PyData} (h : VR B ω H v ev) (e : ev.dat st = some d) : Bp B.K ω.F H v d := by
  cases ev with
  | val d' => cases e; exact .rp h
  | new o =>
    obtain ⟨p, rfl, _, _, _, m⟩ := h
    exact m.bp e
  | lost => cases e
  | bor n =>
    obtain ⟨p, h1, rfl⟩ := h
    have e' : st[n]?.bind Cell.dat = some d := e
    cases hc : st[n]? with
    | none => rw [hc] at e'; cases e'
    | some c =>
      rw [hc] at e'
      have q := s.cell n c p hc h1
      cases c with
      | live o => exact q.2.bp e'
      | io o => exact q.2.bp e'
      | fz d2 => cases e'; exact .rp q
      | kd kvs => cases e'
/-- one more address is frozen -/
theorem SR.frz (s : SR B ω H σ sl st) {p : Addr} {o : MO} (hp : p ∉ ω.ad) (h0 : B.H0 p = none ∧ p ∉ B.pr) (hf : ¬ ω.F p) (m : MOR B.K ω.F H p o) : SR B ⟨fun a => ω.F a ∨ a = p, ω.ad⟩ H σ sl st ∧ Fr ω.F H (fun a => ω.F a ∨ a = p) H := by
  have fr : Fr ω.F H (fun a => ω.F a ∨ a = p) H := fun a h => ⟨.inl h, rfl⟩
  refine ⟨⟨s.len, fun a h => ?_, s.keep, fun a h => ?_, fun a h => .inl (s.oldF a h), s.adl, s.nd, s.iop, s.adn, s.ioc, s.ioc2, s.there, fun q hq z => z.elim (s.prF q hq) (fun e => h0.2 (e ▸ hq)), s.prA, s.prH, fun i t h => (s.slot i t h).up fr (List.prefix_refl _), fun n c q h1 h2 => (s.cell n c q h1 h2).up fr fun h3 h4 => ⟨rfl, fun z => ?_⟩⟩, fr⟩
  · rcases h with h | h
    · exact s.dom a h
    · subst h; exact m.some
  · rcases h with h | h
    · exact s.newF a h
    · subst h; exact .inr h0.1
  · rcases z with z | z
    · exact h4 z
    · subst z; exact hp (List.mem_of_getElem? h2)
def EV.soft : EV → EV
  | .new (.lst xs) => .val (.list xs)
  | .new (.dic xs) => .val (.dict xs)
  | .new (.ins _ _) => .lost
  | e => e
theorem EV.soft_dat (ev : EV) (st : Sto) : ev.soft.dat st = ev.dat st := by
  cases ev with
  | new o => cases o <;> rfl
  | _ => rfl
theorem VR.soft (s : SR B ω H σ sl st) (h : VR B ω H v ev) : ∃ ω', Ext B ω H ω' H ∧ SR B ω' H σ sl st ∧ VR B ω' H v ev.soft := by
  cases ev with
  | val d => exact ⟨ω, .refl, s, h⟩
  | bor n => exact ⟨ω, .refl, s, h⟩
  | new o =>
    obtain ⟨p, rfl, h1, h2, h3, m⟩ := h
    obtain ⟨s', fr⟩ := s.frz h1 h2 h3 m
    refine ⟨⟨fun a => ω.F a ∨ a = p, ω.ad⟩, ⟨fr, List.prefix_refl _, fun _ _ => rfl⟩, s', ?_⟩
    cases o with
    | lst xs => exact MOR.rp (K := B.K) (F := fun a => ω.F a ∨ a = p) (o := .lst xs) (.inr rfl) rfl (m.up fr rfl)
    | dic xs => exact MOR.rp (K := B.K) (F := fun a => ω.F a ∨ a = p) (o := .dic xs) (.inr rfl) rfl (m.up fr rfl)
    | ins _ _ => exact True.intro
  | lost => exact ⟨ω, .refl, s, h⟩
def EV.fix (st : Sto) : EV → Option (PyData × Sto)
  | .val d => some (d, st)
  | .new (.lst xs) => some (.list xs, st)
  | .new (.dic xs) => some (.dict xs, st)
  | .bor n => match st[n]? with
    | some (.live (.lst xs)) => some (.list xs, st.set n (.fz (.list xs)))
    | some (.live (.dic xs)) => some (.dict xs, st.set n (.fz (.dict xs)))
    | some (.fz d) => some (d, st)
    | _ => none
  | _ => none
theorem EV.fix_live {st : Sto} {n : Nat} {o : MO} {z : PyData} (h : st[n]? = some (.live o)) (e : o.dat = some z) : (EV.bor n).fix st = some (z, st.set n (.fz z)) := by
  unfold EV.fix
  cases o <;> cases e <;> simp only [h]
theorem EV.fix_ins {st : Sto} {n : Nat} {o : MO} (h : st[n]? = some (.live o)) (e : o.dat = none) : (EV.bor n).fix st = none := by
  unfold EV.fix
  cases o <;> cases e <;> simp only [h]
theorem VR.fix (s : SR B ω H σ sl st) (h : VR B ω H v ev) {d : PyData} {st' : Sto} (e : ev.fix st = some (d, st')) : ∃ ω', Ext B ω H ω' H ∧ SR B ω' H σ sl st' ∧ Rp B.K ω'.F H v d := by
  cases ev with
  | val d =>
    cases e
    exact ⟨ω, .refl, s, h⟩
  | new o =>
    obtain ⟨ω', e1, s', h'⟩ := VR.soft s h
    cases o with
    | lst _ => cases e; exact ⟨ω', e1, s', h'⟩
    | dic _ => cases e; exact ⟨ω', e1, s', h'⟩
    | ins _ _ => cases e
  | lost => cases e
  | bor n =>
    obtain ⟨p, h1, rfl⟩ := h
    cases hc : st[n]? with
    | none => simp [EV.fix, hc] at e
    | some c =>
      have q := s.cell n c p hc h1
      cases c with
      | kd kvs => simp [EV.fix, hc] at e
      | io o => simp [EV.fix, hc] at e
      | fz d2 =>
        simp only [EV.fix, hc] at e
        cases e
        exact ⟨ω, .refl, s, q⟩
      | live o =>
       cases hd : o.dat with
       | none => rw [EV.fix_ins hc hd] at e; cases e
       | some z =>
        rw [EV.fix_live hc hd] at e
        cases e
        have hn : n < st.length := (List.getElem?_eq_some_iff.mp hc).1
        have fr : Fr ω.F H (fun a => ω.F a ∨ a = p) H := fun a h => ⟨.inl h, rfl⟩
        have rp : Rp B.K (fun a => ω.F a ∨ a = p) H (.ref p) d := MOR.rp (.inr rfl) hd (q.2.up fr rfl)
        have nio : ¬ n < B.io.length := fun hl => by
          obtain ⟨o', e'⟩ := s.ioc n _ hl hc
          cases e'
        have pio : p ∉ B.io := fun hp => by
          obtain ⟨j, hj, ej⟩ := List.getElem_of_mem hp
          obtain ⟨t, ht⟩ := s.iop
          have e2 : ω.ad[j]? = some p := by
            rw [← ht, List.getElem?_append_left hj, List.getElem?_eq_getElem hj, ej]
          have l1 := (List.getElem?_eq_some_iff.mp e2).1
          have := (List.getElem?_inj l1 s.nd).mp (e2.trans h1.symm)
          omega
        refine ⟨⟨fun a => ω.F a ∨ a = p, ω.ad⟩, ⟨fr, List.prefix_refl _, fun _ _ => rfl⟩, ⟨s.len, fun a h => ?_, s.keep, fun a h => ?_, fun a h => .inl (s.oldF a h), by rw [List.length_set]; exact s.adl, s.nd, s.iop, s.adn, fun m c hm h => ?_, fun m o hm => ?_, s.there, fun q' hq z => z.elim (s.prF q' hq) (fun e => s.prA q' hq (e ▸ List.mem_of_getElem? h1)), s.prA, s.prH, fun i t h => (s.slot i t h).up fr (List.prefix_refl _), fun m c q' g1 g2 => ?_⟩, rp⟩
        · rcases h with h | h
          · exact s.dom a h
          · subst h; exact q.2.some
        · rcases h with h | h
          · exact s.newF a h
          · subst h
            exact .inr ((s.adn _ (List.mem_of_getElem? h1)).resolve_left pio)
        · rw [List.getElem?_set_ne (by omega)] at h
          exact s.ioc m c hm h
        · by_cases hm' : n = m
          · subst hm'
            rw [List.getElem?_set_self hn] at hm
            cases hm
          · rw [List.getElem?_set_ne hm'] at hm
            exact s.ioc2 m o hm
        · by_cases hm : n = m
          · subst hm
            rw [List.getElem?_set_self hn] at g1
            cases g1
            rw [h1] at g2
            cases g2
            exact rp
          · rw [List.getElem?_set_ne hm] at g1
            refine (s.cell m c q' g1 g2).up fr fun h3 h4 => ⟨rfl, fun z => ?_⟩
            rcases z with z | z
            · exact h4 z
            · subst z
              exact hm ((List.getElem?_inj (List.getElem?_eq_some_iff.mp h1).1 s.nd).mp (h1.trans g2.symm))
end

/-! ### the judgements -/
def OutE (B : Bs) (W : WX) (σ : L2.St) (ω : Wd) (H : Hp) (sl : Sls) (r : Re EV) (Q : VK) : Prop := match r with
  | .fail => False
  | .ok ev st => ∀ v ω' H', Ext B ω H ω' H' → SR B ω' H' σ sl st → VR B ω' H' v ev → Q v H'
  | .exc x st => ∀ cls d ω' H', Ext B ω H ω' H' → SR B ω' H' σ sl st → ExR B x cls d H' → W cls d σ H'
def OutT (B : Bs) (W : WX) (σ : L2.St) (ω : Wd) (H : Hp) (sl : Sls) (r : Re Bool) (Q : Bool → Hp → Prop) : Prop := match r with
  | .fail => False
  | .ok b st => ∀ ω' H', Ext B ω H ω' H' → SR B ω' H' σ sl st → Q b H'
  | .exc x st => ∀ cls d ω' H', Ext B ω H ω' H' → SR B ω' H' σ sl st → ExR B x cls d H' → W cls d σ H'
/-- values one beside the other -/
def VRs (B : Bs) (ω : Wd) (H : Hp) : List V → List EV → Prop := Paired (VR B ω H)
def OutA (B : Bs) (W : WX) (σ : L2.St) (ω : Wd) (H : Hp) (sl : Sls) (r : Re (List EV)) (Q : List V → Hp → Prop) : Prop := match r with
  | .fail => False
  | .ok evs st => ∀ vs ω' H', Ext B ω H ω' H' → SR B ω' H' σ sl st → VRs B ω' H' vs evs → Q vs H'
  | .exc x st => ∀ cls d ω' H', Ext B ω H ω' H' → SR B ω' H' σ sl st → ExR B x cls d H' → W cls d σ H'
def OutS (B : Bs) (W : WX) (ω : Wd) (H : Hp) (r : RS) (D : Ends) : Prop := match r with
  | .fail => False
  | .nx sl st => ∀ σ' ω' H', Ext B ω H ω' H' → SR B ω' H' σ' sl st → D.nx σ' H'
  | .bk sl st => ∀ σ' ω' H', Ext B ω H ω' H' → SR B ω' H' σ' sl st → D.bk σ' H'
  | .ct sl st => ∀ σ' ω' H', Ext B ω H ω' H' → SR B ω' H' σ' sl st → D.ct σ' H'
  | .rt d st => ∀ v σ' ω' H' sl, Ext B ω H ω' H' → SR B ω' H' σ' sl st → Rp B.K ω'.F H' v d → D.rt v H'
  | .rn o st => ∀ v σ' ω' H' sl, Ext B ω H ω' H' → SR B ω' H' σ' sl st → VR B ω' H' v (.new o) → D.rt v H'
  | .exc x sl st => ∀ cls d σ' ω' H', Ext B ω H ω' H' → SR B ω' H' σ' sl st → ExR B x cls d H' → W cls d σ' H'
def SE (X : Cx) (ct : Gx) (W : WX) (e : Expr) (f : FE) : Prop := ∀ (B : Bs), B.K = X.K → B.ct = ct → ∀ sl st, PE X e (fun σ H Q => ∃ ω, SR B ω H σ sl st ∧ OutE B W σ ω H sl (f sl st) Q)
def ST (X : Cx) (ct : Gx) (W : WX) (e : Expr) (f : FT) : Prop := ∀ (B : Bs), B.K = X.K → B.ct = ct → ∀ sl st, PT X e (fun σ H Q => ∃ ω, SR B ω H σ sl st ∧ OutT B W σ ω H sl (f sl st) Q)
def SW (X : Cx) (ct : Gx) (W : WX) (e : Expr) (f : FT) : Prop := ∀ (B : Bs), B.K = X.K → B.ct = ct → ∀ sl st, PW X e (fun σ H Q => ∃ ω, SR B ω H σ sl st ∧ OutT B W σ ω H sl (f sl st) Q)
def SA (X : Cx) (ct : Gx) (W : WX) (es : List Expr) (f : FA) : Prop := ∀ (B : Bs), B.K = X.K → B.ct = ct → ∀ sl st, PA X es (fun σ H Q => ∃ ω, SR B ω H σ sl st ∧ OutA B W σ ω H sl (f sl st) Q)
def SS (X : Cx) (ct : Gx) (W : WX) (s : Stmt) (f : FS) : Prop := ∀ (B : Bs), B.K = X.K → B.ct = ct → ∀ sl st, PS X s (fun D σ H => ∃ ω, SR B ω H σ sl st ∧ OutS B W ω H (f sl st) D)
def SSs (X : Cx) (ct : Gx) (W : WX) (s : List Stmt) (f : FS) : Prop := ∀ (B : Bs), B.K = X.K → B.ct = ct → ∀ sl st, PSs X s (fun D σ H => ∃ ω, SR B ω H σ sl st ∧ OutS B W ω H (f sl st) D)

theorem pe_imp {X : Cx} {e : Expr} {t t' : TE} (h : PE X e t) (i : ∀ σ H Q, t' σ H Q → t σ H Q) : PE X e t' := ⟨fun pins s σ H Q I q => h.run pins s σ H Q I (i _ _ _ q)⟩
theorem pt_imp {X : Cx} {e : Expr} {t t' : TT} (h : PT X e t) (i : ∀ σ H Q, t' σ H Q → t σ H Q) : PT X e t' := ⟨fun pins s σ H Q I q => h.run pins s σ H Q I (i _ _ _ q)⟩
theorem pw_imp {X : Cx} {e : Expr} {t t' : TT} (h : PW X e t) (i : ∀ σ H Q, t' σ H Q → t σ H Q) : PW X e t' := ⟨fun wh pins s σ H Q I q => h.run wh pins s σ H Q I (i _ _ _ q)⟩
theorem pa_imp {X : Cx} {e : List Expr} {t t' : TA} (h : PA X e t) (i : ∀ σ H Q, t' σ H Q → t σ H Q) : PA X e t' := ⟨fun pos pins s σ H Q I q => h.run pos pins s σ H Q I (i _ _ _ q)⟩
theorem ps_imp {X : Cx} {e : Stmt} {t t' : TS} (h : PS X e t) (i : ∀ D σ H, t' D σ H → t D σ H) : PS X e t' := ⟨fun pins s σ H Q I q => h.run pins s σ H Q I (i _ _ _ q)⟩
theorem pss_imp {X : Cx} {e : List Stmt} {t t' : TS} (h : PSs X e t) (i : ∀ D σ H, t' D σ H → t D σ H) : PSs X e t' := ⟨fun pins s σ H Q I q => h.run pins s σ H Q I (i _ _ _ q)⟩

section
variable {B : Bs} {W : WX} {σ : L2.St} {ω ω1 : Wd} {H H1 : Hp} {sl : Sls}
theorem OutE.up {r : Re EV} {Q : VK} (h : OutE B W σ ω H sl r Q) (e : Ext B ω H ω1 H1) : OutE B W σ ω1 H1 sl r Q := by
  cases r with
  | fail => exact h
  | ok ev st => exact fun v ω' H' x => h v ω' H' (e.trans x)
  | exc x st => exact fun cls d ω' H' x => h cls d ω' H' (e.trans x)
theorem OutT.up {r : Re Bool} {Q : Bool → Hp → Prop} (h : OutT B W σ ω H sl r Q) (e : Ext B ω H ω1 H1) : OutT B W σ ω1 H1 sl r Q := by
  cases r with
  | fail => exact h
  | ok ev st => exact fun ω' H' x => h ω' H' (e.trans x)
  | exc x st => exact fun cls d ω' H' x => h cls d ω' H' (e.trans x)
theorem OutA.up {r : Re (List EV)} {Q : List V → Hp → Prop} (h : OutA B W σ ω H sl r Q) (e : Ext B ω H ω1 H1) : OutA B W σ ω1 H1 sl r Q := by
  cases r with
  | fail => exact h
  | ok ev st => exact fun v ω' H' x => h v ω' H' (e.trans x)
  | exc x st => exact fun cls d ω' H' x => h cls d ω' H' (e.trans x)
theorem OutS.up {r : RS} {D : Ends} (h : OutS B W ω H r D) (e : Ext B ω H ω1 H1) : OutS B W ω1 H1 r D := by
  cases r with
  | fail => exact h
  | nx sl st => exact fun σ' ω' H' x => h σ' ω' H' (e.trans x)
  | bk sl st => exact fun σ' ω' H' x => h σ' ω' H' (e.trans x)
  | ct sl st => exact fun σ' ω' H' x => h σ' ω' H' (e.trans x)
  | rt d st => exact fun v σ' ω' H' sl x => h v σ' ω' H' sl (e.trans x)
  | rn d st => exact fun v σ' ω' H' sl x => h v σ' ω' H' sl (e.trans x)
  | exc x sl st => exact fun cls d σ' ω' H' x => h cls d σ' ω' H' (e.trans x)
end
theorem VR.up {B : Bs} {ω ω1 : Wd} {H H1 : Hp} {v : V} (e : Ext B ω H ω1 H1) : ∀ {ev : EV}, VR B ω H v ev.soft → VR B ω1 H1 v ev.soft
  | .val d, h => Rp.up (d := d) h e.fr
  | .new (.lst xs), h => Rp.up (d := .list xs) h e.fr
  | .new (.dic xs), h => Rp.up (d := .dict xs) h e.fr
  | .new (.ins _ _), _ => True.intro
  | .lost, _ => True.intro
  | .bor n, ⟨p, h, q⟩ => ⟨p, by
      obtain ⟨t, ht⟩ := e.ad
      rw [← ht, List.getElem?_append_left (List.getElem?_eq_some_iff.mp h).1]
      exact h, q⟩

/-! ### what an operation gives -/
inductive OR where
  | val (d : PyData)
  | new (o : MO)
def OR.ev : OR → EV
  | .val d => .val d
  | .new o => .new o
def Give (K : PySem.W.Frag) (F : Addr → Prop) (H : Hp) (Q : VK) : OR → Prop
  | .val d => ∀ v F' H', PEx F H F' H' → Rp K F' H' v d → Q v H'
  | .new o => ∀ p H', H p = none → PEx F H F H' → MOR K F H' p o → Q (.ref p) H'
theorem Give.of {B : Bs} {W : WX} {σ : L2.St} {ω : Wd} {H : Hp} {sl : Sls} {st : Sto} {Q : VK} (s : SR B ω H σ sl st) : ∀ {r : OR}, OutE B W σ ω H sl (.ok r.ev st) Q → Give B.K ω.F H Q r
  | .val d, h => fun v F' H' x r => h v ⟨F', ω.ad⟩ H' (s.px x) (s.pure x) r
  | .new o, h => fun p H' hp x m => h (.ref p) ⟨ω.F, ω.ad⟩ H' (s.px x) (s.pure x) (by
      obtain ⟨h1, h2, h3⟩ := s.fresh hp
      exact ⟨p, rfl, h1, h2, h3, m⟩)

/-! ### operations on data -/
def u1 (g : PyData → Option OR) (f : FE) : FE := fun sl st => match f sl st with
  | .fail => .fail
  | .exc x st1 => .exc x st1
  | .ok ev st1 => match ev.dat st1 with
    | none => .fail
    | some d => match g d with
      | none => .fail
      | some r => .ok r.ev st1
def u2 (g : PyData → PyData → Option OR) (f1 f2 : FE) : FE := fun sl st => match f1 sl st with
  | .fail => .fail
  | .exc x st1 => .exc x st1
  | .ok ev1 st1 => match f2 sl st1 with
    | .fail => .fail
    | .exc x st2 => .exc x st2
    | .ok ev2 st2 => match ev1.dat st2, ev2.dat st2 with
      | some d1, some d2 => match g d1 d2 with
        | none => .fail
        | some r => .ok r.ev st2
      | _, _ => .fail
def datAll (st : Sto) : List EV → Option (List PyData)
  | [] => some []
  | ev :: r => match ev.dat st, datAll st r with
    | some d, some ds => some (d :: ds)
    | _, _ => none
def un (g : List PyData → Option OR) (f : FA) : FE := fun sl st => match f sl st with
  | .fail => .fail
  | .exc x st1 => .exc x st1
  | .ok evs st1 => match datAll st1 evs with
    | none => .fail
    | some ds => match g ds with
      | none => .fail
      | some r => .ok r.ev st1
def Bps (K : PySem.W.Frag) (F : Addr → Prop) (H : Hp) : List V → List PyData → Prop := Paired (Bp K F H)
theorem VRs.bps {B : Bs} {ω : Wd} {H : Hp} {σ : L2.St} {sl : Sls} {st : Sto} (s : SR B ω H σ sl st) : ∀ {vs : List V} {evs : List EV} {ds : List PyData}, VRs B ω H vs evs → datAll st evs = some ds → Bps B.K ω.F H vs ds
  | _, _, ds, .nil, e => by cases e; exact .nil
  | _, _, ds, .cons (b := ev) (l₂ := evs) h r, e => by
    unfold datAll at e
    cases h1 : ev.dat st with
    | none => simp [h1] at e
    | some d =>
      cases h2 : datAll st evs with
      | none => simp [h1, h2] at e
      | some ds' =>
        simp only [h1, h2, Option.some.injEq] at e
        subst e
        exact .cons (VR.bp s h h1) (VRs.bps s r h2)
section
variable {X : Cx} {ct : Gx} {W : WX}
theorem se_u1 {a e : Expr} {f : FE} {r : V → Hp → VK → Prop} {g : PyData → Option OR} (rule : ∀ ta, PE X a ta → PE X e (fun σ H Q => ta σ H fun x H1 => r x H1 Q)) (ha : SE X ct W a f)
    (ok : ∀ F H x d o Q, (∀ a, F a → H a ≠ none) → Bp X.K F H x d → g d = some o → Give X.K F H Q o → r x H Q) : SE X ct W e (u1 g f) := by
  intro B hB hc sl st
  refine pe_imp (rule _ (ha B hB hc sl st)) fun σ H Q ⟨ω, s, q⟩ => ⟨ω, s, ?_⟩
  unfold u1 at q
  cases hf : f sl st with
  | fail => rw [hf] at q; exact q
  | exc x st1 => rw [hf] at q; exact q
  | ok ev st1 =>
    rw [hf] at q
    dsimp only at q
    intro v ω' H' x s' hv
    cases hd : ev.dat st1 with
    | none => rw [hd] at q; exact q.elim
    | some d =>
      rw [hd] at q
      dsimp only at q
      cases hg : g d with
      | none => rw [hg] at q; exact q.elim
      | some o =>
        rw [hg] at q
        have b := VR.bp s' hv hd
        have gv := Give.of s' (OutE.up q x)
        rw [hB] at b gv
        exact ok ω'.F H' v d o Q s'.dom b hg gv
theorem se_u2 {a b e : Expr} {f1 f2 : FE} {r : V → V → Hp → VK → Prop} {g : PyData → PyData → Option OR} (rule : ∀ ta tb, PE X a ta → PE X b tb → PE X e (fun σ H Q => ta σ H fun x H1 => tb σ H1 fun y H2 => r x y H2 Q)) (ha : SE X ct W a f1) (hb : SE X ct W b f2)
    (ok : ∀ F H x y d1 d2 o Q, (∀ a, F a → H a ≠ none) → Bp X.K F H x d1 → Bp X.K F H y d2 → g d1 d2 = some o → Give X.K F H Q o → r x y H Q) : SE X ct W e (u2 g f1 f2) := by
  intro B hB hc sl st
  cases hf : f1 sl st with
  | fail =>
    refine pe_imp (rule _ _ (ha B hB hc sl st) (hb B hB hc sl st)) fun σ H Q ⟨ω, s, q⟩ => ?_
    unfold u2 at q
    rw [hf] at q
    exact q.elim
  | exc x st1 =>
    refine pe_imp (rule _ _ (ha B hB hc sl st) (hb B hB hc sl st)) fun σ H Q ⟨ω, s, q⟩ => ⟨ω, s, ?_⟩
    unfold u2 at q
    rw [hf] at q ⊢
    exact q
  | ok ev1 st1 =>
    refine pe_imp (rule _ _ (ha B hB hc sl st) (hb B hB hc sl st1)) fun σ H Q ⟨ω, s, q⟩ => ⟨ω, s, ?_⟩
    unfold u2 at q
    rw [hf] at q ⊢
    dsimp only at q
    intro v ω1 H1 x1 s1 hv
    obtain ⟨ω2, x2, s2, hv2⟩ := VR.soft s1 hv
    refine ⟨ω2, s2, ?_⟩
    have x12 := x1.trans x2
    cases hf2 : f2 sl st1 with
    | fail => rw [hf2] at q; exact q
    | exc x st2 =>
      rw [hf2] at q
      exact OutE.up q x12
    | ok ev2 st2 =>
      rw [hf2] at q
      dsimp only at q
      intro u ω3 H3 x3 s3 hu
      have hv3 := VR.up x3 hv2
      cases hd1 : ev1.dat st2 with
      | none => rw [hd1] at q; exact q.elim
      | some d1 =>
        cases hd2 : ev2.dat st2 with
        | none => rw [hd1, hd2] at q; exact q.elim
        | some d2 =>
          rw [hd1, hd2] at q
          dsimp only at q
          cases hg : g d1 d2 with
          | none => rw [hg] at q; exact q.elim
          | some o =>
            rw [hg] at q
            have b1 := VR.bp s3 hv3 (by rw [EV.soft_dat]; exact hd1)
            have b2 := VR.bp s3 hu hd2
            have gv := Give.of s3 (OutE.up q (x12.trans x3))
            rw [hB] at b1 b2 gv
            exact ok ω3.F H3 v u d1 d2 o Q s3.dom b1 b2 hg gv
theorem se_un {es : List Expr} {e : Expr} {f : FA} {r : List V → Hp → VK → Prop} {g : List PyData → Option OR} (rule : ∀ t, PA X es t → PE X e (fun σ H Q => t σ H fun xs H1 => r xs H1 Q)) (ha : SA X ct W es f)
    (ok : ∀ F H xs ds o Q, (∀ a, F a → H a ≠ none) → Bps X.K F H xs ds → g ds = some o → Give X.K F H Q o → r xs H Q) : SE X ct W e (un g f) := by
  intro B hB hc sl st
  refine pe_imp (rule _ (ha B hB hc sl st)) fun σ H Q ⟨ω, s, q⟩ => ⟨ω, s, ?_⟩
  unfold un at q
  cases hf : f sl st with
  | fail => rw [hf] at q; exact q
  | exc x st1 => rw [hf] at q; exact q
  | ok evs st1 =>
    rw [hf] at q
    dsimp only at q
    intro vs ω' H' x s' hv
    cases hd : datAll st1 evs with
    | none => rw [hd] at q; exact q.elim
    | some ds =>
      rw [hd] at q
      dsimp only at q
      cases hg : g ds with
      | none => rw [hg] at q; exact q.elim
      | some o =>
        rw [hg] at q
        have b := VRs.bps s' hv hd
        have gv := Give.of s' (OutE.up q x)
        rw [hB] at b gv
        exact ok ω'.F H' vs ds o Q s'.dom b hg gv
end
end Px
namespace Px
open PySem PySem.Spec PyProof.Rows L2

def Lim : Nat := 16777216
theorem lim_line : Lim ≤ sizeLine := by rw [sizeLine_eq]; exact Nat.le_refl _

section
variable {X : Cx} {ct : Gx} {W : WX}
/-! ### names, constants -/
def eName (i : Nat) : FE := fun sl st => match sl[i]? with
  | some (.val d) => .ok (.val d) st
  | some (.ref n) => .ok (.bor n) st
  | _ => .fail
theorem se_name (i : Nat) {x : Str} {pos : Pos} (hN : X.N[i]? = some x := by rfl) (hv : Vis X.env.scope x := by first | exact Or.inl rfl | exact Or.inr (Or.inl rfl) | exact Or.inr (Or.inr rfl)) (hd : (x == ("__debug__" : Str)) = false := by decide)
    (hcd : (x == ("__classdict__" : Str)) = false := by decide) : SE X ct W (.Name x pos) (eName i) := by
  intro B hB hc sl st
  refine pe_imp (pe_var hN hv hd hcd) fun σ H Q ⟨ω, s, q⟩ => ?_
  unfold eName at q
  cases hs : sl[i]? with
  | none => rw [hs] at q; exact q.elim
  | some t =>
    rw [hs] at q
    have r := s.slot i t hs
    cases t with
    | non => exact q.elim
    | hot _ => exact q.elim
    | val d =>
      obtain ⟨x, h1, h2⟩ := r
      exact ⟨x, h1, q x ω H .refl s h2⟩
    | ref n =>
      obtain ⟨p, h1, h2⟩ := r
      exact ⟨.ref p, h2, q _ ω H .refl s ⟨p, h1, rfl⟩⟩
def eD (d : PyData) : FE := fun _ st => .ok (.val d) st
theorem se_c {e : Expr} {v : V} {d : PyData} (h : PE X e (tC v)) (r : ∀ F H, Rp X.K F H v d) : SE X ct W e (eD d) := by
  intro B hB hc sl st
  refine pe_imp h fun σ H Q ⟨ω, s, q⟩ => ?_
  exact q v ω H .refl s (by show Rp B.K ω.F H v d; rw [hB]; exact r _ _)
theorem se_int {i j pos} : SE X ct W (.Constant (.int i) j pos) (eD (.int i)) := se_c pe_int fun _ _ => .int i
theorem se_bl {b j pos} : SE X ct W (.Constant (.bool b) j pos) (eD (.bool b)) := se_c pe_bl fun _ _ => .bl b
theorem se_non {j pos} : SE X ct W (.Constant .none j pos) (eD .none) := se_c pe_non fun _ _ => .non
theorem se_str {x : Str} {j pos} (h : PyData.strOk x = true := by decide +kernel) : SE X ct W (.Constant (.str x) j pos) (eD (.str x)) := se_c pe_str fun _ _ => .str x h
/-- a constant of the module -/
theorem se_glob {x : Str} {pos : Pos} {v : V} {u : Value} {d : PyData} (hg : Gl X x) (hm : X.mg x = some u) (r : RelV v u) (rd : ∀ F H, Rp X.K F H v d) (hd : (x == ("__debug__" : Str)) = false := by decide) : SE X ct W (.Name x pos) (eD d) :=
  se_c (pe_glob hg hm r hd) rd

/-! ### arguments, displays -/
def aNil : FA := fun _ st => .ok [] st
def aCons (f : FE) (g : FA) : FA := fun sl st => match f sl st with
  | .fail => .fail
  | .exc x st1 => .exc x st1
  | .ok ev st1 => match g sl st1 with
    | .fail => .fail
    | .exc x st2 => .exc x st2
    | .ok evs st2 => .ok (ev.soft :: evs) st2
theorem sa_nil : SA X ct W [] aNil := by
  intro B hB hc sl st
  refine pa_imp pa_nil fun σ H Q ⟨ω, s, q⟩ => ?_
  exact q [] ω H .refl s .nil
theorem sa_cons {e : Expr} {es : List Expr} {f : FE} {g : FA} (h1 : SE X ct W e f) (h2 : SA X ct W es g) (hs : starEach (e :: es) X.env = (false, eval e X.env) :: starEach es X.env := by rfl) : SA X ct W (e :: es) (aCons f g) := by
  intro B hB hc sl st
  cases hf : f sl st with
  | fail =>
    refine pa_imp (pa_cons (h1 B hB hc sl st) (h2 B hB hc sl st) hs) fun σ H Q ⟨ω, s, q⟩ => ?_
    unfold aCons at q
    rw [hf] at q
    exact q.elim
  | exc x st1 =>
    refine pa_imp (pa_cons (h1 B hB hc sl st) (h2 B hB hc sl st) hs) fun σ H Q ⟨ω, s, q⟩ => ⟨ω, s, ?_⟩
    unfold aCons at q
    rw [hf] at q ⊢
    exact q
  | ok ev st1 =>
    refine pa_imp (pa_cons (h1 B hB hc sl st) (h2 B hB hc sl st1) hs) fun σ H Q ⟨ω, s, q⟩ => ⟨ω, s, ?_⟩
    unfold aCons at q
    rw [hf] at q ⊢
    dsimp only at q
    intro v ω1 H1 x1 s1 hv
    obtain ⟨ω2, x2, s2, hv2⟩ := VR.soft s1 hv
    refine ⟨ω2, s2, ?_⟩
    have x12 := x1.trans x2
    cases hg : g sl st1 with
    | fail => rw [hg] at q; exact q
    | exc x st2 => rw [hg] at q; exact OutA.up q x12
    | ok evs st2 =>
      rw [hg] at q
      dsimp only at q
      intro vs ω3 H3 x3 s3 hvs
      exact q (v :: vs) ω3 H3 (x12.trans x3) s3 (.cons (VR.up x3 hv2) hvs)
theorem VRs.up {B : Bs} {ω ω1 : Wd} {H H1 : Hp} (x : Ext B ω H ω1 H1) : ∀ {evs : List EV} {vs : List V}, VRs B ω H vs (evs.map EV.soft) → VRs B ω1 H1 vs (evs.map EV.soft)
  | [], _, .nil => .nil
  | _ :: _, _, .cons a b => .cons (VR.up x a) (VRs.up x b)
/-- all of them data -/
def fixAll (st : Sto) : List EV → Option (List PyData × Sto)
  | [] => some ([], st)
  | ev :: r => match ev.fix st with
    | none => none
    | some (d, st1) => match fixAll st1 r with
      | none => none
      | some (ds, st2) => some (d :: ds, st2)
theorem VRs.fix {B : Bs} {H : Hp} {σ : L2.St} {sl : Sls} : ∀ {evs : List EV} {vs : List V} {ω : Wd} {st st' : Sto} {ds : List PyData}, SR B ω H σ sl st → VRs B ω H vs (evs.map EV.soft) → fixAll st (evs.map EV.soft) = some (ds, st') →
    ∃ ω', Ext B ω H ω' H ∧ SR B ω' H σ sl st' ∧ RpA B.K ω'.F H vs ds
  | [], _, ω, st, st', ds, s, .nil, e => by
    cases e
    exact ⟨ω, .refl, s, .nil⟩
  | ev :: evs, _, ω, st, st', ds, s, .cons (a := v) (l₁ := vs) h r, e => by
    have e' : fixAll st (ev.soft :: evs.map EV.soft) = some (ds, st') := e
    unfold fixAll at e'
    cases h1 : ev.soft.fix st with
    | none => simp [h1] at e'
    | some p =>
      obtain ⟨d, st1⟩ := p
      simp only [h1] at e'
      cases h2 : fixAll st1 (evs.map EV.soft) with
      | none => simp [h2] at e'
      | some p2 =>
        obtain ⟨ds2, st2⟩ := p2
        simp only [h2, Option.some.injEq, Prod.mk.injEq] at e'
        obtain ⟨rfl, rfl⟩ := e'
        obtain ⟨ω1, x1, s1, r1⟩ := VR.fix s h h1
        have r' : VRs B ω1 H vs (evs.map EV.soft) := VRs.up x1 r
        obtain ⟨ω2, x2, s2, r2⟩ := VRs.fix s1 r' h2
        exact ⟨ω2, x1.trans x2, s2, .cons (r1.up x2.fr) r2⟩
theorem soft_soft (ev : EV) : ev.soft.soft = ev.soft := by
  cases ev with
  | new o => cases o <;> rfl
  | _ => rfl
/-- what an argument list gives is soft -/
def SoftA (f : FA) : Prop := ∀ sl st evs st', f sl st = .ok evs st' → evs.map EV.soft = evs
theorem soft_nil : SoftA aNil := fun sl st evs st' h => by cases h; rfl
theorem soft_cons {f : FE} {g : FA} (h : SoftA g) : SoftA (aCons f g) := fun sl st evs st' e => by
  unfold aCons at e
  cases h1 : f sl st with
  | fail => rw [h1] at e; cases e
  | exc x st1 => rw [h1] at e; cases e
  | ok ev st1 =>
    rw [h1] at e
    dsimp only at e
    cases h2 : g sl st1 with
    | fail => rw [h2] at e; cases e
    | exc x st1 => rw [h2] at e; cases e
    | ok evs2 st2 =>
      rw [h2] at e
      cases e
      rw [List.map_cons, soft_soft, h _ _ _ _ h2]
def eDisp (mk : List PyData → OR) (f : FA) : FE := fun sl st => match f sl st with
  | .fail => .fail
  | .exc x st1 => .exc x st1
  | .ok evs st1 => match fixAll st1 evs with
    | none => .fail
    | some (ds, st2) => if ds.length ≤ Lim then .ok (mk ds).ev st2 else .fail
theorem se_disp {es : List Expr} {e : Expr} {f : FA} {mk : List PyData → OR} {r : List V → Hp → VK → Prop} (rule : ∀ t, PA X es t → PE X e (fun σ H Q => t σ H fun xs H1 => r xs H1 Q)) (ha : SA X ct W es f) (hs : SoftA f)
    (ok : ∀ F H xs ds Q, (∀ a, F a → H a ≠ none) → RpA X.K F H xs ds → ds.length ≤ sizeLine → Give X.K F H Q (mk ds) → r xs H Q) : SE X ct W e (eDisp mk f) := by
  intro B hB hc sl st
  refine pe_imp (rule _ (ha B hB hc sl st)) fun σ H Q ⟨ω, s, q⟩ => ⟨ω, s, ?_⟩
  unfold eDisp at q
  cases hf : f sl st with
  | fail => rw [hf] at q; exact q
  | exc x st1 => rw [hf] at q; exact q
  | ok evs st1 =>
    rw [hf] at q
    dsimp only at q
    intro vs ω' H' x s' hv
    cases hd : fixAll st1 evs with
    | none => rw [hd] at q; exact q.elim
    | some p =>
      obtain ⟨ds, st2⟩ := p
      rw [hd] at q
      dsimp only at q
      by_cases hl : ds.length ≤ Lim
      · rw [if_pos hl] at q
        have hm := hs _ _ _ _ hf
        obtain ⟨ω2, x2, s2, r2⟩ := VRs.fix (evs := evs) (ω := ω') s' (by rw [hm]; exact hv) (by rw [hm]; exact hd)
        have gv := Give.of s2 (OutE.up q (x.trans x2))
        rw [hB] at r2 gv
        exact ok ω2.F H' vs ds Q s2.dom r2 (Nat.le_trans hl lim_line) gv
      · rw [if_neg hl] at q; exact q.elim
def eTup (f : FA) : FE := eDisp (fun ds => .val (.tuple ds)) f
def eLst (f : FA) : FE := eDisp (fun ds => .new (.lst ds)) f
theorem NewT.of {K : PySem.W.Frag} {F : Addr → Prop} {H : Hp} {Q : VK} {ds : List PyData} {xs : List V} (dm : ∀ a, F a → H a ≠ none) (g : Give K F H Q (.val (.tuple ds))) (r : RpA K F H xs ds) : NewT H xs Q := fun p o hp ho => by
  have px : PEx F H (fun a => F a ∨ a = p) (upd H p (.frz o (.tup xs))) := PEx.frz dm hp
  exact g (.ref p) _ _ px (.tup (.inl ⟨.inr rfl, o, upd_same, ho⟩) (r.up (px.fr dm)))
theorem se_tup {es : List Expr} {f : FA} {k pos} (h : SA X ct W es f) (hs : SoftA f) : SE X ct W (.Tuple es k pos) (eTup f) := by
  refine se_disp (fun t ht => pe_tupF ht) h hs fun F H xs ds Q dm r hl g => ?_
  exact ⟨by rw [r.length]; exact hl, NewT.of dm g r⟩
theorem se_lst {es : List Expr} {f : FA} {pos} (h : SA X ct W es f) (hs : SoftA f) : SE X ct W (.List es pos) (eLst f) := by
  refine se_disp (fun t ht => pe_lst ht) h hs fun F H xs ds Q dm r hl g => ?_
  refine ⟨by rw [r.length]; exact hl, fun p hp => ?_⟩
  have px : PEx F H F (upd H p (.lst xs)) := PEx.neu dm hp
  exact g p _ hp px ⟨xs, upd_same, r.up (px.fr dm)⟩
/-- what gives data that stands already -/
theorem Give.here {K : PySem.W.Frag} {F : Addr → Prop} {H : Hp} {Q : VK} {d : PyData} {v : V} (dm : ∀ a, F a → H a ≠ none) (g : Give K F H Q (.val d)) (r : Rp K F H v d) : Q v H := g v F H (PEx.refl dm) r
theorem Give.lst {K : PySem.W.Frag} {F : Addr → Prop} {H : Hp} {Q : VK} {ds : List PyData} {xs : List V} {p : Addr} (dm : ∀ a, F a → H a ≠ none) (g : Give K F H Q (.new (.lst ds))) (hp : H p = none) (r : RpA K F H xs ds) : Q (.ref p) (upd H p (.lst xs)) := by
  have px : PEx F H F (upd H p (.lst xs)) := PEx.neu dm hp
  exact g p _ hp px ⟨xs, upd_same, r.up (px.fr dm)⟩
end
end Px
namespace Px
open PySem PySem.Spec PyProof.Rows L2

section
variable {X : Cx} {ct : Gx} {W : WX}
theorem op_or {f : Value → Value → Sem Value} {r r' : R2} (h : OpR X f r) (h' : OpR X f r') : OpR X f (fun x y H Q => r x y H Q ∨ r' x y H Q) := fun pins s σ H x y v u Q I rx ry q => q.elim (h pins s σ H x y v u Q I rx ry) (h' pins s σ H x y v u Q I rx ry)
/-- list + list, whatever they are -/
theorem op_catL : OpR X (binaryOp .Add) (fun x y H Q => ∃ l b xs zs, x = .ref l ∧ y = .ref b ∧ SqL X.K H l xs ∧ SqL X.K H b zs ∧ xs.length + zs.length ≤ sizeLine ∧ ∀ p, H p = none → Q (.ref p) (upd H p (.lst (xs ++ zs)))) := by
  intro pins s σ H x y v u Q I rx ry h
  obtain ⟨l, b, xs, zs, rfl, rfl, hH, hB, hz, q⟩ := h
  cases rx
  cases ry
  obtain ⟨its, r, ⟨⟨cls, dd, data, sl⟩, n, ho, hc, hdn, hd⟩, _⟩ := I.list hH
  obtain ⟨its2, r2, ⟨⟨cls2, dd2, data2, sl2⟩, n2, ho2, hc2, hdn2, hd2⟩, _⟩ := I.list hB
  simp only at hc hd hc2 hd2 hdn hdn2
  subst hc hd hc2 hd2 hdn hdn2
  have h1 := r.length
  have h2 := r2.length
  have joined : (its ++ its2).toArray = its.toArray ++ its2.toArray := by simp
  refine concat_meets ⟨_, ho, rfl⟩ ⟨_, ho2, rfl⟩ noFill_list_add seq_list_add PySem.F.slot_list_add PySem.F.entry_list_add (PySem.F.args_list_add_2 _ _) (list_addW l b its.toArray its2.toArray n n2 _ _ sl sl2 (by simp; omega)) ⟨ho, ho2, ?_⟩
  rw [← joined]
  have long : (xs ++ zs).length ≤ sizeLine := by
    rw [List.length_append]
    exact hz
  exact ⟨.ref s.heap.objs.size, _, I.lnew (t' := s.toks) (r.append r2) long, rfl, q _ I.fresh⟩

theorem strOk_iff {x : Str} : PyData.strOk x = true ↔ ∀ c ∈ x.cps.toList, c < 0x110000 := by
  unfold PyData.strOk
  rw [Array.all_eq_true_iff_forall_mem]
  simp
theorem strOk_app {a b : Str} (h1 : PyData.strOk a = true) (h2 : PyData.strOk b = true) : PyData.strOk (a ++ b) = true := by
  rw [strOk_iff] at *
  intro c hc
  have e : (a ++ b).cps.toList = a.cps.toList ++ b.cps.toList := by
    show (a.cps ++ b.cps).toList = _
    simp
  rw [e] at hc
  rcases List.mem_append.mp hc with hc | hc
  · exact h1 c hc
  · exact h2 c hc
/-! ### arithmetic -/
def addD : PyData → PyData → Option OR
  | .int i, .int j => some (.val (.int (i + j)))
  | .str a, .str b => if a.length + b.length ≤ Lim then some (.val (.str (a ++ b))) else none
  | .list a, .list b => if a.length + b.length ≤ Lim then some (.new (.lst (a ++ b))) else none
  | .tuple a, .tuple b => if a.length + b.length ≤ Lim then some (.val (.tuple (a ++ b))) else none
  | _, _ => none
theorem se_add {a b : Expr} {f g : FE} {pos} (h1 : SE X ct W a f) (h2 : SE X ct W b g) : SE X ct W (.BinOp a .Add b pos) (u2 addD f g) := by
  refine se_u2 (fun ta tb ha hb => pe_op (op_or op_add (op_or op_add_str (op_or op_catL op_catF))) ha hb) h1 h2 fun F H x y d1 d2 o Q dm b1 b2 e gv => ?_
  unfold addD at e
  split at e
  · cases e
    cases b1.int_
    cases b2.int_
    exact .inl ⟨_, _, rfl, rfl, gv.here dm (.int _)⟩
  · rename_i a b
    split at e
    · rename_i hl
      cases e
      have k1 := b1.ok_
      have k2 := b2.ok_
      cases b1.str_
      cases b2.str_
      exact .inr (.inl ⟨_, _, rfl, rfl, Nat.le_trans hl lim_line, gv.here dm (.str _ (strOk_app k1 k2))⟩)
    · cases e
  · rename_i a b
    split at e
    · rename_i hl
      cases e
      obtain ⟨p1, v1, rfl, s1, r1⟩ := b1.list_
      obtain ⟨p2, v2, rfl, s2, r2⟩ := b2.list_
      exact .inr (.inr (.inl ⟨_, _, _, _, rfl, rfl, s1, s2, by rw [r1.length, r2.length]; exact Nat.le_trans hl lim_line, fun p hp => gv.lst dm hp (r1.append r2)⟩))
    · cases e
  · rename_i a b
    split at e
    · rename_i hl
      cases e
      cases b1 with
      | rp t1 =>
      cases b2 with
      | rp t2 =>
      cases t1 with
      | tup f1 r1 =>
      cases t2 with
      | tup f2 r2 =>
      refine .inr (.inr (.inr ⟨_, _, _, _, rfl, rfl, f1.sq, f2.sq, by rw [r1.length, r2.length]; exact Nat.le_trans hl lim_line, fun h0 => ?_, fun h0 h1 => ?_, fun h0 h1 => NewT.of dm gv (r1.append r2)⟩))
      · subst h0
        cases r1
        exact gv.here dm (.tup f2 r2)
      · subst h1
        cases r2
        rw [List.append_nil] at gv
        exact gv.here dm (.tup f1 r1)
    · cases e
  · cases e
def int2 (C : Int → Int → Prop) [∀ i j, Decidable (C i j)] (g : Int → Int → Int) : PyData → PyData → Option OR
  | .int i, .int j => if C i j then some (.val (.int (g i j))) else none
  | _, _ => none
theorem se_int2 {a b : Expr} {f h : FE} {pos} {op : Operator} {C D : Int → Int → Prop} [∀ i j, Decidable (C i j)] {g : Int → Int → Int} (hop : OpR X (binaryOp op) (rI D fun i j => .int (g i j))) (cd : ∀ i j, C i j → D i j)
    (h1 : SE X ct W a f) (h2 : SE X ct W b h) : SE X ct W (.BinOp a op b pos) (u2 (int2 C g) f h) := by
  refine se_u2 (fun ta tb ha hb => pe_op hop ha hb) h1 h2 fun F H x y d1 d2 o Q dm b1 b2 e gv => ?_
  unfold int2 at e
  split at e
  · split at e
    · rename_i hl
      cases e
      cases b1.int_
      cases b2.int_
      exact ⟨_, _, rfl, rfl, cd _ _ hl, gv.here dm (.int _)⟩
    · cases e
  · cases e
abbrev CTrue : Int → Int → Prop := fun _ _ => True
abbrev subD := int2 CTrue (fun i j => i - j)
theorem op_sub' : OpR X (binaryOp .Sub) (rI CTrue fun i j => .int (i - j)) := fun pins s σ H x y v u Q I rx ry ⟨i, j, h1, h2, _, q⟩ => op_sub pins s σ H x y v u Q I rx ry ⟨i, j, h1, h2, q⟩
theorem se_sub {a b : Expr} {f h : FE} {pos} (h1 : SE X ct W a f) (h2 : SE X ct W b h) : SE X ct W (.BinOp a .Sub b pos) (u2 subD f h) := se_int2 op_sub' (fun _ _ h => h) h1 h2
abbrev CMul' : Int → Int → Prop := fun i j => (-(2 ^ 64) < i ∧ i < 2 ^ 64) ∨ (-(2 ^ 64) < j ∧ j < 2 ^ 64)
abbrev mulD := int2 CMul' (fun i j => i * j)
theorem se_mul {a b : Expr} {f h : FE} {pos} (h1 : SE X ct W a f) (h2 : SE X ct W b h) : SE X ct W (.BinOp a .Mult b pos) (u2 mulD f h) := se_int2 op_mul (fun _ _ h => h) h1 h2
abbrev CDiv' : Int → Int → Prop := fun _ j => 0 < j ∧ j < 1073741824
abbrev fdivD := int2 CDiv' (fun i j => i / j)
theorem se_fdiv {a b : Expr} {f h : FE} {pos} (h1 : SE X ct W a f) (h2 : SE X ct W b h) : SE X ct W (.BinOp a .FloorDiv b pos) (u2 fdivD f h) := se_int2 op_fdiv (fun _ _ h => h) h1 h2
abbrev CPos : Int → Int → Prop := fun _ j => 0 < j
abbrev modD := int2 CPos (fun i j => i % j)
theorem se_mod {a b : Expr} {f h : FE} {pos} (h1 : SE X ct W a f) (h2 : SE X ct W b h) : SE X ct W (.BinOp a .Mod b pos) (u2 modD f h) := se_int2 op_mod (fun _ _ h => h) h1 h2
abbrev CPow' : Int → Int → Prop := fun i j => 0 ≤ j ∧ j ≤ 1000000 ∧ i.natAbs < 2 ^ 64
abbrev powD := int2 CPow' (fun i j => i ^ j.toNat)
theorem se_pow {a b : Expr} {f h : FE} {pos} (h1 : SE X ct W a f) (h2 : SE X ct W b h) : SE X ct W (.BinOp a .Pow b pos) (u2 powD f h) := se_int2 op_pow (fun _ _ h => h) h1 h2
def negD : PyData → Option OR
  | .int i => some (.val (.int (-i)))
  | _ => none
theorem se_neg {a : Expr} {f : FE} {pos} (h1 : SE X ct W a f) : SE X ct W (.UnaryOp .USub a pos) (u1 negD f) := by
  refine se_u1 (fun ta ha => pe_un un_neg ha) h1 fun F H x d o Q dm b e gv => ?_
  unfold negD at e
  split at e
  · cases e
    cases b.int_
    exact ⟨_, rfl, gv.here dm (.int _)⟩
  · cases e

/-! ### comparisons -/
mutual
/-- no dict within -/
def nodict : PyData → Bool
  | .dict _ => false
  | .list xs => nodictA xs
  | .tuple xs => nodictA xs
  | _ => true
def nodictA : List PyData → Bool
  | [] => true
  | d :: ds => nodict d && nodictA ds
end
theorem Rp.dp {K : PySem.W.Frag} {F : Addr → Prop} {H : Hp} : ∀ (d : PyData) (v : V), nodict d = true → Rp K F H v d → Dp K H v d
  | .none, _, _, h => by cases h; exact .non
  | .bool b, _, _, h => by cases h; exact .bl b
  | .int i, _, _, h => by cases h; exact .int i
  | .str x, _, _, h => by cases h; exact .str x
  | .list ds, _, n, h => by
    cases h with
    | lst f r =>
      have n' : nodictA ds = true := n
      exact .lst f.sq (go ds _ n' r)
  | .tuple ds, _, n, h => by
    cases h with
    | tup f r =>
      have n' : nodictA ds = true := n
      exact .tup f.sq (go ds _ n' r)
  | .dict ds, _, n, h => by cases n
where
  go {K : PySem.W.Frag} {F : Addr → Prop} {H : Hp} : ∀ (ds : List PyData) (vs : List V), nodictA ds = true → RpA K F H vs ds → DpAll K H vs ds
  | [], _, _, h => by cases h; exact .nil
  | d :: ds, _, n, h => by
    have n' : (nodict d && nodictA ds) = true := n
    rw [Bool.and_eq_true] at n'
    cases h with
    | cons a b => exact .cons (Rp.dp d _ n'.1 a) (go ds _ n'.2 b)
theorem RpA.dp {K : PySem.W.Frag} {F : Addr → Prop} {H : Hp} {ds : List PyData} {vs : List V} (n : nodictA ds = true) (r : RpA K F H vs ds) : DpAll K H vs ds := Rp.dp.go ds vs n r
theorem Bp.dp {K : PySem.W.Frag} {F : Addr → Prop} {H : Hp} {d : PyData} {v : V} (n : nodict d = true) (h : Bp K F H v d) : Dp K H v d := by
  cases h with
  | rp h => exact Rp.dp d v n h
  | lst h r =>
    have n' : nodictA _ = true := n
    exact .lst (.of h) (r.dp n')
  | dic h r => cases n
mutual
theorem Rp.lay {K : PySem.W.Frag} {F : Addr → Prop} {H : Hp} : ∀ (d : PyData) (v : V), nodict d = true → Rp K F H v d → d.canLay0 = true
  | .none, _, _, _ => by simp [PyData.canLay0]
  | .bool b, _, _, _ => by simp [PyData.canLay0]
  | .int i, _, _, _ => by simp [PyData.canLay0]
  | .str x, _, _, h => by
    cases h with
    | str _ k => simpa [PyData.canLay0] using k
  | .list ds, _, n, h => by
    cases h with
    | lst f r =>
      have n' : nodictA ds = true := n
      simpa [PyData.canLay0] using RpA.lay ds _ n' r
  | .tuple ds, _, n, h => by
    cases h with
    | tup f r =>
      have n' : nodictA ds = true := n
      simpa [PyData.canLay0] using RpA.lay ds _ n' r
  | .dict ds, _, n, h => by cases n
theorem RpA.lay {K : PySem.W.Frag} {F : Addr → Prop} {H : Hp} : ∀ (ds : List PyData) (vs : List V), nodictA ds = true → RpA K F H vs ds → PyData.canLayAll0 ds = true
  | [], _, _, h => by simp [PyData.canLayAll0]
  | d :: ds, _, n, h => by
    have n' : (nodict d && nodictA ds) = true := n
    rw [Bool.and_eq_true] at n'
    cases h with
    | cons a b => simp [PyData.canLayAll0, Rp.lay d _ n'.1 a, RpA.lay ds _ n'.2 b]
end
theorem Bp.lay {K : PySem.W.Frag} {F : Addr → Prop} {H : Hp} {d : PyData} {v : V} (n : nodict d = true) (h : Bp K F H v d) : d.canLay0 = true := by
  cases h with
  | rp h => exact Rp.lay d v n h
  | lst h r =>
    have n' : nodictA _ = true := n
    simpa [PyData.canLay0] using RpA.lay _ _ n' r
  | dic h r => cases n
/-- == of data: none of it a dict, nested at most 64 -/
def okEq (d : PyData) : Bool := decide (d.depth ≤ 64) && nodict d
def eqD : PyData → PyData → Option Bool
  | .str a, .str b => some (decide (a = b))
  | a, b => if (okEq a && okEq b) = true then some (PyData.eqv a b) else none
theorem Bp.shaped {K : PySem.W.Frag} {F : Addr → Prop} {H : Hp} {d : PyData} {v : V} (n : okEq d = true) (h : Bp K F H v d) : SeqAt.shaped d = true ∧ nodict d = true := by
  unfold okEq at n
  rw [Bool.and_eq_true] at n
  refine ⟨?_, n.2⟩
  unfold SeqAt.shaped
  rw [h.lay n.2, n.1]
  rfl
theorem eq_ask {K : PySem.W.Frag} {F : Addr → Prop} {H : Hp} {x y : V} {d1 d2 : PyData} {b : Bool} (b1 : Bp K F H x d1) (b2 : Bp K F H y d2) (e : eqD d1 d2 = some b) :
    (scal x y = true ∧ decide (x = y) = b) ∨ ∃ d e, Dp K H x d ∧ Dp K H y e ∧ SeqAt.shaped d = true ∧ SeqAt.shaped e = true ∧ PyData.eqv d e = b := by
  unfold eqD at e
  split at e
  · cases e
    cases b1.str_
    cases b2.str_
    refine .inl ⟨rfl, ?_⟩
    rename_i a c
    by_cases h : a = c
    · subst h; simp
    · have h' : ¬ V.str a = V.str c := fun z => h (V.str.inj z)
      rw [decide_eq_false h, decide_eq_false h']
  · split at e
    · rename_i h
      cases e
      rw [Bool.and_eq_true] at h
      obtain ⟨s1, n1⟩ := b1.shaped h.1
      obtain ⟨s2, n2⟩ := b2.shaped h.2
      exact .inr ⟨_, _, b1.dp n1, b2.dp n2, s1, s2, rfl⟩
    · cases e
def asB (f : PyData → PyData → Option Bool) : PyData → PyData → Option OR := fun a b => (f a b).map fun c => .val (.bool c)
def neD : PyData → PyData → Option Bool := fun a b => (eqD a b).map (!·)
/-- what a comparison's sign asks of data -/
def RelD (X : Cx) (op : CmpOp) (g : PyData → PyData → Option Bool) : Prop := ∃ r : R2, OpR X (compareOp op) r ∧ ∀ F H x y d1 d2 b Q, Bp X.K F H x d1 → Bp X.K F H y d2 → g d1 d2 = some b → Q (.bl b) H → r x y H Q
theorem rel_eq (hu : X.A.units + 64 < cLine) : RelD X .Eq eqD := ⟨_, op_or op_eq (op_eqD hu), fun F H x y d1 d2 b Q b1 b2 e q => by
  rcases eq_ask b1 b2 e with ⟨h1, h2⟩ | ⟨d, e, h1, h2, h3, h4, h5⟩
  · exact .inl ⟨h1, by rw [h2]; exact q⟩
  · exact .inr ⟨d, e, h1, h2, h3, h4, by rw [h5]; exact q⟩⟩
theorem rel_ne (hu : X.A.units + 64 < cLine) : RelD X .NotEq neD := ⟨_, op_or op_ne (op_neD hu), fun F H x y d1 d2 b Q b1 b2 e q => by
  unfold neD at e
  cases h : eqD d1 d2 with
  | none => rw [h] at e; cases e
  | some c =>
    rw [h] at e
    cases e
    rcases eq_ask b1 b2 h with ⟨h1, h2⟩ | ⟨d, e, h1, h2, h3, h4, h5⟩
    · exact .inl ⟨h1, by rw [h2]; exact q⟩
    · exact .inr ⟨d, e, h1, h2, h3, h4, by rw [h5]; exact q⟩⟩
def cmpI (g : Int → Int → Bool) : PyData → PyData → Option Bool
  | .int i, .int j => some (g i j)
  | _, _ => none
theorem rel_int {op : CmpOp} {g : Int → Int → Bool} (h : OpR X (compareOp op) (rI0 fun i j => .bl (g i j))) : RelD X op (cmpI g) := ⟨_, h, fun F H x y d1 d2 b Q b1 b2 e q => by
  unfold cmpI at e
  split at e
  · cases e
    cases b1.int_
    cases b2.int_
    exact ⟨_, _, rfl, rfl, q⟩
  · cases e⟩
abbrev ltD := cmpI fun i j => decide (i < j)
abbrev leD := cmpI fun i j => decide (i ≤ j)
abbrev gtD := cmpI fun i j => decide (j < i)
theorem rel_lt : RelD X .Lt ltD := rel_int op_lt
theorem rel_le : RelD X .LtE leD := rel_int op_le
theorem rel_gt : RelD X .Gt gtD := rel_int op_gt
theorem se_cmp {a b : Expr} {op : CmpOp} {f g : FE} {pos} {c : PyData → PyData → Option Bool} (r : RelD X op c) (h1 : SE X ct W a f) (h2 : SE X ct W b g) (hm : behindInMarks op b = false) : SE X ct W (.Compare a [op] [b] pos) (u2 (asB c) f g) := by
  obtain ⟨r, hop, hr⟩ := r
  refine se_u2 (fun ta tb ha hb => pe_cmpR hop ha hb hm) h1 h2 fun F H x y d1 d2 o Q dm b1 b2 e gv => ?_
  unfold asB at e
  cases h : c d1 d2 with
  | none => rw [h] at e; cases e
  | some k =>
    rw [h] at e
    cases e
    exact hr F H x y d1 d2 k Q b1 b2 h (gv.here dm (.bl k))
/-! ### tests -/
def tst (f : FE) : FT := fun sl st => match f sl st with
  | .fail => .fail
  | .exc x st1 => .exc x st1
  | .ok (.val (.bool b)) st1 => .ok b st1
  | .ok _ _ => .fail
theorem st_of {e : Expr} {f : FE} (rule : ∀ t, PE X e t → PT X e (fun σ H Q => t σ H fun x H1 => ∃ c, x = .bl c ∧ Q c H1)) (h : SE X ct W e f) : ST X ct W e (tst f) := by
  intro B hB hc sl st
  refine pt_imp (rule _ (h B hB hc sl st)) fun σ H Q ⟨ω, s, q⟩ => ⟨ω, s, ?_⟩
  unfold tst at q
  cases hf : f sl st with
  | fail => rw [hf] at q; exact q
  | exc x st1 => rw [hf] at q; exact q
  | ok ev st1 =>
    rw [hf] at q
    intro v ω' H' x s' hv
    cases ev with
    | bor n => exact q.elim
    | new o => exact q.elim
    | lost => exact q.elim
    | val d =>
      cases d with
      | bool b =>
        have hv' : Rp B.K ω'.F H' v (.bool b) := hv
        cases hv'
        exact ⟨b, rfl, q ω' H' x s'⟩
      | none => exact q.elim
      | int _ => exact q.elim
      | str _ => exact q.elim
      | list _ => exact q.elim
      | tuple _ => exact q.elim
      | dict _ => exact q.elim
/-- a name, a call: by its value, a bool -/
theorem st_val {e : Expr} {f : FE} (h : SE X ct W e f) (he : ∀ whole, isTrue e X.env whole = (do let v ← whole; standAt e.pos; holding [v] (truthy v)) := by intro _; rfl) : ST X ct W e (tst f) :=
  st_of (fun t ht => pt_val ht he) h
/-- two in a row, for tests of a comparison -/
def t2 (c : PyData → PyData → Option Bool) (f1 f2 : FE) : FT := fun sl st => match f1 sl st with
  | .fail => .fail
  | .exc x st1 => .exc x st1
  | .ok ev1 st1 => match f2 sl st1 with
    | .fail => .fail
    | .exc x st2 => .exc x st2
    | .ok ev2 st2 => match ev1.dat st2, ev2.dat st2 with
      | some d1, some d2 => match c d1 d2 with
        | none => .fail
        | some r => .ok r st2
      | _, _ => .fail
theorem st_cmp {a b : Expr} {op : CmpOp} {f1 f2 : FE} {pos} {c : PyData → PyData → Option Bool} (r : RelD X op c) (ha : SE X ct W a f1) (hb : SE X ct W b f2) (hm : behindInMarks op b = false) : ST X ct W (.Compare a [op] [b] pos) (t2 c f1 f2) := by
  obtain ⟨r, hop, hr⟩ := r
  intro B hB hc sl st
  cases hf : f1 sl st with
  | fail =>
    refine pt_imp (pt_cmpR hop (ha B hB hc sl st) (hb B hB hc sl st) hm) fun σ H Q ⟨ω, s, q⟩ => ?_
    unfold t2 at q
    rw [hf] at q
    exact q.elim
  | exc x st1 =>
    refine pt_imp (pt_cmpR hop (ha B hB hc sl st) (hb B hB hc sl st) hm) fun σ H Q ⟨ω, s, q⟩ => ⟨ω, s, ?_⟩
    unfold t2 at q
    rw [hf] at q ⊢
    exact q
  | ok ev1 st1 =>
    refine pt_imp (pt_cmpR hop (ha B hB hc sl st) (hb B hB hc sl st1) hm) fun σ H Q ⟨ω, s, q⟩ => ⟨ω, s, ?_⟩
    unfold t2 at q
    rw [hf] at q ⊢
    dsimp only at q
    intro v ω1 H1 x1 s1 hv
    obtain ⟨ω2, x2, s2, hv2⟩ := VR.soft s1 hv
    refine ⟨ω2, s2, ?_⟩
    have x12 := x1.trans x2
    cases hf2 : f2 sl st1 with
    | fail => rw [hf2] at q; exact q
    | exc x st2 => rw [hf2] at q; exact OutT.up q x12
    | ok ev2 st2 =>
      rw [hf2] at q
      dsimp only at q
      intro u ω3 H3 x3 s3 hu
      have hv3 := VR.up x3 hv2
      cases hd1 : ev1.dat st2 with
      | none => rw [hd1] at q; exact q.elim
      | some d1 =>
        cases hd2 : ev2.dat st2 with
        | none => rw [hd1, hd2] at q; exact q.elim
        | some d2 =>
          rw [hd1, hd2] at q
          dsimp only at q
          cases hg : c d1 d2 with
          | none => rw [hg] at q; exact q.elim
          | some o =>
            rw [hg] at q
            have b1 := VR.bp s3 hv3 (by rw [EV.soft_dat]; exact hd1)
            have b2 := VR.bp s3 hu hd2
            rw [hB] at b1 b2
            exact hr ω3.F H3 v u d1 d2 o _ b1 b2 hg ⟨o, rfl, q ω3 H3 (x12.trans x3) s3⟩
/-! ### and, or, not -/
def tNotF (f : FT) : FT := fun sl st => match f sl st with
  | .ok b st1 => .ok (!b) st1
  | .exc x st1 => .exc x st1
  | .fail => .fail
theorem st_not {a : Expr} {f : FT} {pos} (h : ST X ct W a f) : ST X ct W (.UnaryOp .Not a pos) (tNotF f) := by
  intro B hB hc sl st
  refine pt_imp (pt_not (h B hB hc sl st)) fun σ H Q ⟨ω, s, q⟩ => ⟨ω, s, ?_⟩
  unfold tNotF at q
  cases hf : f sl st with
  | fail => rw [hf] at q; exact q
  | exc x st1 => rw [hf] at q; exact q
  | ok b st1 => rw [hf] at q; exact fun ω' H' x s' => q ω' H' x s'
def tAndF (f g : FT) : FT := fun sl st => match f sl st with
  | .ok true st1 => g sl st1
  | .ok false st1 => .ok false st1
  | .exc x st1 => .exc x st1
  | .fail => .fail
def tOrF (f g : FT) : FT := fun sl st => match f sl st with
  | .ok false st1 => g sl st1
  | .ok true st1 => .ok true st1
  | .exc x st1 => .exc x st1
  | .fail => .fail
theorem sw_and1 {a : Expr} {f : FT} {pos} (h : ST X ct W a f) : SW X ct W (.BoolOp .And [a] pos) f := fun B hB hc sl st => pw_and1 (h B hB hc sl st)
theorem sw_or1 {a : Expr} {f : FT} {pos} (h : ST X ct W a f) : SW X ct W (.BoolOp .Or [a] pos) f := fun B hB hc sl st => pw_or1 (h B hB hc sl st)
theorem sw_and {a b : Expr} {rest : List Expr} {f g : FT} {pos} (h1 : ST X ct W a f) (h2 : SW X ct W (.BoolOp .And (b :: rest) pos) g) : SW X ct W (.BoolOp .And (a :: b :: rest) pos) (tAndF f g) := by
  intro B hB hc sl st
  cases hf : f sl st with
  | fail =>
    refine pw_imp (pw_and (h1 B hB hc sl st) (h2 B hB hc sl st)) fun σ H Q ⟨ω, s, q⟩ => ?_
    unfold tAndF at q
    rw [hf] at q
    exact q.elim
  | exc x st1 =>
    refine pw_imp (pw_and (h1 B hB hc sl st) (h2 B hB hc sl st)) fun σ H Q ⟨ω, s, q⟩ => ⟨ω, s, ?_⟩
    unfold tAndF at q
    rw [hf] at q ⊢
    exact q
  | ok c st1 =>
    refine pw_imp (pw_and (h1 B hB hc sl st) (h2 B hB hc sl st1)) fun σ H Q ⟨ω, s, q⟩ => ⟨ω, s, ?_⟩
    unfold tAndF at q
    rw [hf] at q ⊢
    intro ω' H' x s'
    cases c with
    | true => rw [if_pos rfl]; exact ⟨ω', s', OutT.up q x⟩
    | false => rw [if_neg Bool.false_ne_true]; exact q ω' H' x s'
theorem sw_or {a b : Expr} {rest : List Expr} {f g : FT} {pos} (h1 : ST X ct W a f) (h2 : SW X ct W (.BoolOp .Or (b :: rest) pos) g) : SW X ct W (.BoolOp .Or (a :: b :: rest) pos) (tOrF f g) := by
  intro B hB hc sl st
  cases hf : f sl st with
  | fail =>
    refine pw_imp (pw_or (h1 B hB hc sl st) (h2 B hB hc sl st)) fun σ H Q ⟨ω, s, q⟩ => ?_
    unfold tOrF at q
    rw [hf] at q
    exact q.elim
  | exc x st1 =>
    refine pw_imp (pw_or (h1 B hB hc sl st) (h2 B hB hc sl st)) fun σ H Q ⟨ω, s, q⟩ => ⟨ω, s, ?_⟩
    unfold tOrF at q
    rw [hf] at q ⊢
    exact q
  | ok c st1 =>
    refine pw_imp (pw_or (h1 B hB hc sl st) (h2 B hB hc sl st1)) fun σ H Q ⟨ω, s, q⟩ => ⟨ω, s, ?_⟩
    unfold tOrF at q
    rw [hf] at q ⊢
    intro ω' H' x s'
    cases c with
    | true => rw [if_pos rfl]; exact q ω' H' x s'
    | false => rw [if_neg Bool.false_ne_true]; exact ⟨ω', s', OutT.up q x⟩
theorem st_w {e : Expr} {f : FT} (h : SW X ct W e f) : ST X ct W e f := fun B hB hc sl st => (h B hB hc sl st).pt
/-- a test's outcome as a value: and, or of bools -/
def eOfT (f : FT) : FE := fun sl st => match f sl st with
  | .ok b st1 => .ok (.val (.bool b)) st1
  | .exc x st1 => .exc x st1
  | .fail => .fail
def eAnd (f g : FE) : FE := fun sl st => match f sl st with
  | .ok (.val (.bool true)) st1 => g sl st1
  | .ok (.val (.bool false)) st1 => .ok (.val (.bool false)) st1
  | .exc x st1 => .exc x st1
  | _ => .fail
def eOr (f g : FE) : FE := fun sl st => match f sl st with
  | .ok (.val (.bool false)) st1 => g sl st1
  | .ok (.val (.bool true)) st1 => .ok (.val (.bool true)) st1
  | .exc x st1 => .exc x st1
  | _ => .fail
def eNot (f : FE) : FE := fun sl st => match f sl st with
  | .ok (.val (.bool b)) st1 => .ok (.val (.bool (!b))) st1
  | .exc x st1 => .exc x st1
  | _ => .fail
theorem se_one {op} {a : Expr} {f : FE} {pos} (h : SE X ct W a f) : SE X ct W (.BoolOp op [a] pos) f := fun B hB hc sl st => pe_one (h B hB hc sl st)
theorem se_and {a b : Expr} {rest : List Expr} {f g : FE} {pos} (h1 : SE X ct W a f) (h2 : SE X ct W (.BoolOp .And (b :: rest) pos) g) : SE X ct W (.BoolOp .And (a :: b :: rest) pos) (eAnd f g) := by
  intro B hB hc sl st
  cases hf : f sl st with
  | fail =>
    refine pe_imp (pe_and (h1 B hB hc sl st) (h2 B hB hc sl st)) fun σ H Q ⟨ω, s, q⟩ => ?_
    unfold eAnd at q
    rw [hf] at q
    exact q.elim
  | exc x st1 =>
    refine pe_imp (pe_and (h1 B hB hc sl st) (h2 B hB hc sl st)) fun σ H Q ⟨ω, s, q⟩ => ⟨ω, s, ?_⟩
    unfold eAnd at q
    rw [hf] at q ⊢
    exact q
  | ok c st1 =>
    refine pe_imp (pe_and (h1 B hB hc sl st) (h2 B hB hc sl st1)) fun σ H Q ⟨ω, s, q⟩ => ⟨ω, s, ?_⟩
    unfold eAnd at q
    rw [hf] at q ⊢
    intro v ω' H' x s' hv
    cases c with
    | bor n => exact q.elim
    | new o => exact q.elim
    | lost => exact q.elim
    | val d =>
      cases d with
      | bool b =>
        have hv' : Rp B.K ω'.F H' v (.bool b) := hv
        cases hv'
        refine ⟨b, rfl, ?_⟩
        cases b with
        | true => rw [if_pos rfl]; exact ⟨ω', s', OutE.up q x⟩
        | false => rw [if_neg Bool.false_ne_true]; exact q _ ω' H' x s' hv
      | none => exact q.elim
      | int _ => exact q.elim
      | str _ => exact q.elim
      | list _ => exact q.elim
      | tuple _ => exact q.elim
      | dict _ => exact q.elim
theorem se_not {a : Expr} {f : FE} {pos} (h : SE X ct W a f) : SE X ct W (.UnaryOp .Not a pos) (eNot f) := by
  intro B hB hc sl st
  refine pe_imp (pe_not (h B hB hc sl st)) fun σ H Q ⟨ω, s, q⟩ => ⟨ω, s, ?_⟩
  unfold eNot at q
  cases hf : f sl st with
  | fail => rw [hf] at q; exact q
  | exc x st1 => rw [hf] at q; exact q
  | ok c st1 =>
    rw [hf] at q
    intro v ω' H' x s' hv
    cases c with
    | bor n => exact q.elim
    | new o => exact q.elim
    | lost => exact q.elim
    | val d =>
      cases d with
      | bool b =>
        have hv' : Rp B.K ω'.F H' v (.bool b) := hv
        cases hv'
        exact ⟨b, rfl, q _ ω' H' x s' (.bl _)⟩
      | none => exact q.elim
      | int _ => exact q.elim
      | str _ => exact q.elim
      | list _ => exact q.elim
      | tuple _ => exact q.elim
      | dict _ => exact q.elim
def eIf (t : FT) (f g : FE) : FE := fun sl st => match t sl st with
  | .ok true st1 => f sl st1
  | .ok false st1 => g sl st1
  | .exc x st1 => .exc x st1
  | .fail => .fail
theorem se_if {c a b : Expr} {t : FT} {f g : FE} {pos} (h : ST X ct W c t) (h1 : SE X ct W a f) (h2 : SE X ct W b g) : SE X ct W (.IfExp c a b pos) (eIf t f g) := by
  intro B hB hc sl st
  cases hf : t sl st with
  | fail =>
    refine pe_imp (pe_ifExp (h B hB hc sl st) (h1 B hB hc sl st) (h2 B hB hc sl st)) fun σ H Q ⟨ω, s, q⟩ => ?_
    unfold eIf at q
    rw [hf] at q
    exact q.elim
  | exc x st1 =>
    refine pe_imp (pe_ifExp (h B hB hc sl st) (h1 B hB hc sl st) (h2 B hB hc sl st)) fun σ H Q ⟨ω, s, q⟩ => ⟨ω, s, ?_⟩
    unfold eIf at q
    rw [hf] at q ⊢
    exact q
  | ok k st1 =>
    refine pe_imp (pe_ifExp (h B hB hc sl st) (h1 B hB hc sl st1) (h2 B hB hc sl st1)) fun σ H Q ⟨ω, s, q⟩ => ⟨ω, s, ?_⟩
    unfold eIf at q
    rw [hf] at q ⊢
    intro ω' H' x s'
    cases k with
    | true => rw [if_pos rfl]; exact ⟨ω', s', OutE.up q x⟩
    | false => rw [if_neg Bool.false_ne_true]; exact ⟨ω', s', OutE.up q x⟩
end
end Px
namespace Px
open PySem PySem.Spec PyProof.Rows L2

section
variable {B : Bs} {ω : Wd} {H : Hp} {σ : L2.St} {sl : Sls} {st : Sto} {v : V} {W : WX}
/-- a slot is told -/
theorem SR.set (s : SR B ω H σ sl st) {i : Nat} {t : Sl} (r : SlR B.K ω.F ω.ad B.ct H (some (some v)) t) : SR B ω H (σ.set i (some v)) (sl.set i t) st where
  len := by rw [List.length_set, List.length_set]; exact s.len
  dom := s.dom
  keep := s.keep
  newF := s.newF
  oldF := s.oldF
  adl := s.adl
  nd := s.nd
  iop := s.iop
  adn := s.adn
  ioc := s.ioc
  ioc2 := s.ioc2
  there := s.there
  prF := s.prF
  prA := s.prA
  prH := s.prH
  slot := fun j u h => by
    by_cases e : i = j
    · subst e
      have hl : i < sl.length := by
        have := (List.getElem?_eq_some_iff.mp h).1
        rw [List.length_set] at this
        exact this
      rw [List.getElem?_set_self hl] at h
      cases h
      rw [List.getElem?_set_self (by rw [s.len]; exact hl)]
      exact r
    · rw [List.getElem?_set_ne e] at h
      rw [List.getElem?_set_ne e]
      exact s.slot j u h
  cell := s.cell
/-- a new thing comes into the store -/
theorem SR.push (s : SR B ω H σ sl st) {p : Addr} {o : MO} (hp : p ∉ ω.ad) (h0 : B.H0 p = none ∧ p ∉ B.pr) (hf : ¬ ω.F p) (m : MOR B.K ω.F H p o) : SR B ⟨ω.F, ω.ad ++ [p]⟩ H σ sl (st ++ [.live o]) ∧ Ext B ω H ⟨ω.F, ω.ad ++ [p]⟩ H := by
  have pre : ω.ad <+: ω.ad ++ [p] := ⟨[p], rfl⟩
  refine ⟨⟨s.len, s.dom, s.keep, s.newF, s.oldF, by rw [List.length_append, List.length_append, s.adl]; rfl, ?_, s.iop.trans pre, fun q hq => ?_, fun n c hn h => ?_, fun n o' h => ?_, fun q hq => ?_, s.prF, fun q hq z => ?_, s.prH, fun i t h => (s.slot i t h).up Fr.refl pre, fun n c q h1 h2 => ?_⟩, ⟨Fr.refl, pre, fun _ _ => rfl⟩⟩
  · refine List.nodup_append.mpr ⟨s.nd, by simp, fun a ha b hb => ?_⟩
    rw [List.mem_singleton.mp hb]
    rintro rfl
    exact hp ha
  · rcases List.mem_append.mp hq with hq | hq
    · exact s.adn q hq
    · rw [List.mem_singleton.mp hq]; exact .inr h0.1
  · have hl : n < st.length := Nat.lt_of_lt_of_le hn (by rw [← s.adl]; exact s.iop.length_le)
    rw [List.getElem?_append_left hl] at h
    exact s.ioc n c hn h
  · by_cases hl : n < st.length
    · rw [List.getElem?_append_left hl] at h
      exact s.ioc2 n o' h
    · rw [List.getElem?_append_right (by omega)] at h
      cases hn : n - st.length with
      | zero => rw [hn] at h; cases h
      | succ m => rw [hn] at h; simp at h
  · rcases List.mem_append.mp hq with hq | hq
    · exact s.there q hq
    · rw [List.mem_singleton.mp hq]; exact m.some
  · rcases List.mem_append.mp z with z | z
    · exact s.prA q hq z
    · rw [List.mem_singleton.mp z] at hq; exact h0.2 hq
  · by_cases hl : n < st.length
    · rw [List.getElem?_append_left hl] at h1
      have hl2 : n < ω.ad.length := by rw [s.adl]; exact hl
      have h2' : (ω.ad ++ [p])[n]? = some q := h2
      rw [List.getElem?_append_left hl2] at h2'
      exact s.cell n c q h1 h2'
    · rw [List.getElem?_append_right (by omega)] at h1
      have h2' : (ω.ad ++ [p])[n]? = some q := h2
      have hl2 : ¬ n < ω.ad.length := by rw [s.adl]; exact hl
      rw [List.getElem?_append_right (by omega), s.adl] at h2'
      cases hn : n - st.length with
      | zero =>
        rw [hn] at h1 h2'
        cases h1
        cases h2'
        exact ⟨hf, m⟩
      | succ m => rw [hn] at h1; simp at h1
end

section
variable {X : Cx} {ct : Gx} {W : WX}
/-! ### small statements -/
def sNext : FS := fun sl st => .nx sl st
def sExpr (f : FE) : FS := fun sl st => match f sl st with
  | .fail => .fail
  | .exc x st1 => .exc x sl st1
  | .ok _ st1 => .nx sl st1
theorem ss_expr {e : Expr} {f : FE} {pos : Pos} (h : SE X ct W e f) (hs : swapsWith e none pos.line X.env = pure false := by rfl) : SS X ct W (.Expr e pos) (sExpr f) := by
  intro B hB hc sl st
  refine ps_imp (ps_expr (h B hB hc sl st) hs) fun D σ H ⟨ω, s, q⟩ => ⟨ω, s, ?_⟩
  unfold sExpr at q
  cases hf : f sl st with
  | fail => rw [hf] at q; exact q
  | exc x st1 => rw [hf] at q; exact fun cls d ω' H' e s' r => q cls d σ ω' H' e s' r
  | ok ev st1 => rw [hf] at q; exact fun v ω' H' e s' _ => q σ ω' H' e s'
def sRet (f : FE) : FS := fun sl st => match f sl st with
  | .fail => .fail
  | .exc x st1 => .exc x sl st1
  | .ok ev st1 => match ev.fix st1 with
    | none => .fail
    | some (d, st2) => .rt d st2
theorem ss_ret {e : Expr} {f : FE} {pos : Pos} (h : SE X ct W e f) : SS X ct W (.Return (some e) pos) (sRet f) := by
  intro B hB hc sl st
  refine ps_imp (ps_ret (h B hB hc sl st)) fun D σ H ⟨ω, s, q⟩ => ⟨ω, s, ?_⟩
  unfold sRet at q
  cases hf : f sl st with
  | fail => rw [hf] at q; exact q
  | exc x st1 => rw [hf] at q; exact fun cls d ω' H' e s' r => q cls d σ ω' H' e s' r
  | ok ev st1 =>
    rw [hf] at q
    dsimp only at q
    intro v ω' H' e s' hv
    cases hx : ev.fix st1 with
    | none => rw [hx] at q; exact q.elim
    | some p =>
      obtain ⟨d, st2⟩ := p
      rw [hx] at q
      obtain ⟨ω2, e2, s2, r2⟩ := VR.fix s' hv hx
      exact q v σ ω2 H' sl (e.trans e2) s2 r2
/-- a new thing handed back -/
def sRetW (f : FE) : FS := fun sl st => match f sl st with
  | .fail => .fail
  | .exc x st1 => .exc x sl st1
  | .ok (.new o) st1 => .rn o st1
  | .ok _ _ => .fail
theorem ss_retW {e : Expr} {f : FE} {pos} (h : SE X ct W e f) : SS X ct W (.Return (some e) pos) (sRetW f) := by
  intro B hB hc sl st
  refine ps_imp (ps_ret (h B hB hc sl st)) fun D σ H ⟨ω, s, q⟩ => ⟨ω, s, ?_⟩
  unfold sRetW at q
  cases hf : f sl st with
  | fail => rw [hf] at q; exact q
  | exc x st1 => rw [hf] at q; exact fun cls d ω' H' e s' r => q cls d σ ω' H' e s' r
  | ok ev st1 =>
    rw [hf] at q
    cases ev with
    | val d => exact q.elim
    | bor n => exact q.elim
    | lost => exact q.elim
    | new o => exact fun v ω' H' x s' hv => q v σ ω' H' sl x s' hv
/-! ### names told -/
/-- what a name is told: own: a new thing comes into the store -/
def sTell (own : Bool) (i : Nat) (ev : EV) (sl : Sls) (st : Sto) : RS := match ev with
  | .val d => .nx (sl.set i (.val d)) st
  | .bor n => .nx (sl.set i (.ref n)) st
  | .new o => if own then .nx (sl.set i (.ref st.length)) (st ++ [.live o]) else match o.dat with
    | some z => .nx (sl.set i (.val z)) st
    | none => .fail
  | .lost => .fail
def sSet (own : Bool) (i : Nat) (f : FE) : FS := fun sl st => match f sl st with
  | .fail => .fail
  | .exc x st1 => .exc x sl st1
  | .ok ev st1 => sTell own i ev sl st1
theorem tell_ok {B : Bs} {ω0 ω : Wd} {H0 H : Hp} {σ : L2.St} {sl : Sls} {st : Sto} {v : V} {own : Bool} {i : Nat} {ev : EV} {D : Ends} (e : Ext B ω0 H0 ω H) (s : SR B ω H σ sl st) (h : VR B ω H v ev) (q : OutS B W ω0 H0 (sTell own i ev sl st) D) : D.nx (σ.set i (some v)) H := by
  cases ev with
  | val d => exact q _ ω H e (s.set ⟨v, rfl, h⟩)
  | bor n =>
    obtain ⟨p, h1, rfl⟩ := h
    exact q _ ω H e (s.set ⟨p, h1, rfl⟩)
  | new o =>
    cases own with
    | true =>
      obtain ⟨p, rfl, h1, h2, h3, m⟩ := h
      obtain ⟨s', e'⟩ := s.push h1 h2 h3 m
      refine q _ _ H (e.trans e') (s'.set ⟨p, ?_, rfl⟩)
      rw [← s.adl]
      simp
    | false =>
      obtain ⟨ω', e', s', h'⟩ := VR.soft s h
      cases o with
      | lst _ => exact q _ ω' H (e.trans e') (s'.set ⟨v, rfl, h'⟩)
      | dic _ => exact q _ ω' H (e.trans e') (s'.set ⟨v, rfl, h'⟩)
      | ins _ _ => exact False.elim q
  | lost => exact False.elim q
theorem set_of {B : Bs} {own : Bool} {i : Nat} {f : FE} {te : TE} {s : Stmt} {sl : Sls} {st : Sto} (hs : PS X s (tAsg te (gName i))) (ht : ∀ σ H Q, (∃ ω, SR B ω H σ sl st ∧ OutE B W σ ω H sl (f sl st) Q) → te σ H Q) :
    PS X s (fun D σ H => ∃ ω, SR B ω H σ sl st ∧ OutS B W ω H (sSet own i f sl st) D) := by
  refine ps_imp hs fun D σ H ⟨ω, s, q⟩ => ht σ H _ ⟨ω, s, ?_⟩
  unfold sSet at q
  cases hf : f sl st with
  | fail => rw [hf] at q; exact q
  | exc x st1 => rw [hf] at q; exact fun cls d ω' H' e s' r => q cls d σ ω' H' e s' r
  | ok ev st1 => rw [hf] at q; exact fun v ω' H' e s' hv => tell_ok e s' hv q
theorem ss_set (own : Bool) (i : Nat) {x : Str} {e : Expr} {f : FE} {pos pos' : Pos} (h : SE X ct W e f) (hN : X.N.Nodup) (hi : X.N[i]? = some x := by rfl) (hx : Loc X.env.scope x := by first | exact .inl rfl | exact .inr rfl)
    (hs : swapsWith e (some (.Name x pos')) pos.line X.env = pure false := by rfl) (hf : X.fn x = true ∨ X.env.scope.names.lookup x = some .local := by first | exact .inl rfl | exact .inr rfl) : SS X ct W (.Assign [.Name x pos'] e pos) (sSet own i f) := fun B hB hc sl st =>
  set_of (ps_set hN hi hx (h B hB hc sl st) hs hf) fun σ H Q h => h
/-! ### targets -/
abbrev FG := PyData → Sls → Option Sls
/-- σ' is σ but for the slots ts -/
def Ts (ts : List Nat) (σ σ' : L2.St) : Prop := ∀ vs : List Nat, (∀ i ∈ ts, i ∈ vs) → wipe σ' vs = wipe σ vs
theorem wipe_set {σ : L2.St} {i : Nat} {x : Option V} : ∀ {vs : List Nat}, i ∈ vs → wipe (σ.set i x) vs = wipe σ vs
  | v :: vs, h => by
    show (wipe (σ.set i x) vs).set v none = (wipe σ vs).set v none
    by_cases hi : i ∈ vs
    · rw [wipe_set hi]
    · have e : i = v := by
        rcases List.mem_cons.mp h with h | h
        · exact h
        · exact absurd h hi
      subst e
      rw [wipe_out hi, List.set_set]
where
  wipe_out {σ : L2.St} {i : Nat} {x : Option V} : ∀ {vs : List Nat}, i ∉ vs → wipe (σ.set i x) vs = (wipe σ vs).set i x
    | [], _ => rfl
    | v :: vs, h => by
      show (wipe (σ.set i x) vs).set v none = ((wipe σ vs).set v none).set i x
      rw [wipe_out (fun z => h (List.mem_cons_of_mem _ z)), List.set_comm _ _ (fun z => h (by rw [z]; exact List.mem_cons_self))]
def SG (X : Cx) (ts : List Nat) (tg : Expr) (h : FG) : Prop := ∀ (B : Bs), B.K = X.K → ∀ (sl sl' : Sls) (st : Sto) (d : PyData), h d sl = some sl' → PG X tg (fun v σ H Q => ∃ ω, SR B ω H σ sl st ∧ Rp B.K ω.F H v d ∧ ∀ σ', Ts ts σ σ' → SR B ω H σ' sl' st → Q σ' H)
theorem pg_imp {e : Expr} {t t' : TG} (h : PG X e t) (i : ∀ v σ H Q, t' v σ H Q → t v σ H Q) : PG X e t' := ⟨fun pins s σ H v u Q I r q => h.run pins s σ H v u Q I r (i _ _ _ _ q)⟩
theorem pgs_imp {e : List Expr} {t t' : TGs} (h : PGs X e t) (i : ∀ v σ H Q, t' v σ H Q → t v σ H Q) : PGs X e t' := ⟨fun pins s σ H v u Q I r q => h.run pins s σ H v u Q I r (i _ _ _ _ q)⟩
def gN (i : Nat) : FG := fun d sl => some (sl.set i (.val d))
theorem sg_name (i : Nat) {x : Str} {pos : Pos} (hN : X.N.Nodup) (hi : X.N[i]? = some x := by rfl) (hx : Loc X.env.scope x := by first | exact .inl rfl | exact .inr rfl) (hf : X.fn x = true ∨ X.env.scope.names.lookup x = some .local := by first | exact .inl rfl | exact .inr rfl) : SG X [i] (.Name x pos) (gN i) := by
  intro B hB sl sl' st d e
  cases e
  exact pg_imp (pg_name hN hi hx hf) fun v σ H Q ⟨ω, s, r, q⟩ => q _ (fun vs hv => wipe_set (hv i List.mem_cons_self)) (s.set ⟨v, rfl, r⟩)
abbrev FGs := List PyData → Sls → Option Sls
def SGs (X : Cx) (ts : List Nat) (tgs : List Expr) (h : FGs) : Prop := ∀ (B : Bs), B.K = X.K → ∀ (sl sl' : Sls) (st : Sto) (ds : List PyData), h ds sl = some sl' → PGs X tgs (fun vs σ H Q => ∃ ω, SR B ω H σ sl st ∧ RpA B.K ω.F H vs ds ∧ ∀ σ', Ts ts σ σ' → SR B ω H σ' sl' st → Q σ' H)
def gNil' : FGs := fun ds sl => match ds with
  | [] => some sl
  | _ => none
def gCons' (h : FG) (g : FGs) : FGs := fun ds sl => match ds with
  | [] => none
  | d :: r => match h d sl with
    | none => none
    | some sl1 => g r sl1
theorem sgs_nil : SGs X [] [] gNil' := by
  intro B hB sl sl' st ds e
  refine pgs_imp pgs_nil fun vs σ H Q ⟨ω, s, r, q⟩ => ?_
  cases ds with
  | nil =>
    cases e
    cases r
    exact ⟨rfl, q _ (fun _ _ => rfl) s⟩
  | cons d r => cases e
theorem sgs_cons {e : Expr} {es : List Expr} {h : FG} {g : FGs} {t1 t2 : List Nat} (h1 : SG X t1 e h) (h2 : SGs X t2 es g) (hs : (assignEach (e :: es) X.env).map (·.2) = assign e X.env :: (assignEach es X.env).map (·.2) := by rfl) : SGs X (t1 ++ t2) (e :: es) (gCons' h g) := by
  intro B hB sl sl' st ds e
  cases ds with
  | nil => cases e
  | cons d r =>
    unfold gCons' at e
    dsimp only at e
    cases hd : h d sl with
    | none => rw [hd] at e; cases e
    | some sl1 =>
      rw [hd] at e
      refine pgs_imp (pgs_cons (h1 B hB sl sl1 st d hd) (h2 B hB sl1 sl' st r e) hs) fun vs σ H Q ⟨ω, s, ra, q⟩ => ?_
      cases ra with
      | cons a b => exact ⟨_, _, rfl, ω, s, a, fun σ' w1 s' => ⟨ω, s', b, fun σ2 w2 s2 => q σ2 (fun vs hv => (w2 vs fun i hi => hv i (List.mem_append_right _ hi)).trans (w1 vs fun i hi => hv i (List.mem_append_left _ hi))) s2⟩⟩
def gT (n : Nat) (g : FGs) : FG := fun d sl => match d with
  | .tuple ds => if ds.length = n then g ds sl else none
  | _ => none
theorem sg_tup {es : List Expr} {k : Nat} {g : FGs} {n : Nat} {pos : Pos} {ts : List Nat} (hc : X.calm = true) (h : SGs X ts es g) (hn : (assignEach es X.env).length = n := by rfl) (hst : (assignEach es X.env).findIdx? (·.1) = none := by rfl) : SG X ts (.Tuple es k pos) (gT n g) := by
  intro B hB sl sl' st d e
  unfold gT at e
  split at e
  · rename_i ds
    split at e
    · rename_i hl
      refine pg_imp (pg_tup (n := n) hc (h B hB sl sl' st ds e) hn hst) fun v σ H Q ⟨ω, s, r, q⟩ => ?_
      cases r with
      | tup f r => exact ⟨_, _, rfl, by rw [← hB]; exact f.sq, by rw [r.length]; exact hl, ω, s, r, q⟩
    · cases e
  · cases e
def sAsg (h : FG) (f : FE) : FS := fun sl st => match f sl st with
  | .fail => .fail
  | .exc x st1 => .exc x sl st1
  | .ok ev st1 => match ev.fix st1 with
    | none => .fail
    | some (d, st2) => match h d sl with
      | none => .fail
      | some sl' => .nx sl' st2
theorem ss_asg {tg e : Expr} {f : FE} {h : FG} {pos : Pos} {ts : List Nat} (hg : SG X ts tg h) (he : SE X ct W e f) (hs : swapsWithSole [tg] e pos.line X.env = pure false := by rfl) (hw : swappedStores [tg] e X.env = pure none := by rfl)
    (h1 : (assignEach [tg] X.env).map (·.2) = [assign tg X.env] := by rfl) : SS X ct W (.Assign [tg] e pos) (sAsg h f) := by
  intro B hB hc sl st
  have go : ∀ (sl' : Sls) (d : PyData) (st1 st2 : Sto) (ev : EV), f sl st = .ok ev st1 → ev.fix st1 = some (d, st2) → h d sl = some sl' → PS X (.Assign [tg] e pos) (fun D σ H => ∃ ω, SR B ω H σ sl st ∧ OutS B W ω H (.nx sl' st2) D) := by
    intro sl' d st1 st2 ev e1 e2 e3
    refine ps_imp (ps_asg (he B hB hc sl st) (hg B hB sl sl' st2 d e3) hs hw h1) fun D σ H ⟨ω, s, q⟩ => ⟨ω, s, ?_⟩
    rw [e1]
    intro v ω' H' x s' hv
    obtain ⟨ω2, x2, s2, r2⟩ := VR.fix s' hv e2
    exact ⟨ω2, s2, r2, fun σ' _ s3 => q σ' ω2 H' (x.trans x2) s3⟩
  have no : (∀ D ω H, OutS B W ω H (sAsg h f sl st) D → False) → PS X (.Assign [tg] e pos) (fun D σ H => ∃ ω, SR B ω H σ sl st ∧ OutS B W ω H (sAsg h f sl st) D) := fun hn =>
    ps_imp ps_never fun D σ H ⟨ω, s, q⟩ => (hn D ω H q).elim
  unfold sAsg at no ⊢
  cases hf : f sl st with
  | fail => rw [hf] at no; exact no fun _ _ _ q => q
  | exc x st1 =>
    refine ps_imp (ps_asg (g := fun v σ H Q => False) (he B hB hc sl st) ⟨fun _ _ _ _ _ _ _ _ _ z => z.elim⟩ hs hw h1) fun D σ H ⟨ω, s, q⟩ => ⟨ω, s, ?_⟩
    rw [hf]
    exact fun cls d ω' H' e s' r => q cls d σ ω' H' e s' r
  | ok ev st1 =>
    rw [hf] at no
    dsimp only at no ⊢
    cases hx : ev.fix st1 with
    | none => rw [hx] at no; exact no fun _ _ _ q => q
    | some p =>
      obtain ⟨d, st2⟩ := p
      rw [hx] at no
      dsimp only at no ⊢
      cases hd : h d sl with
      | none => rw [hd] at no; exact no fun _ _ _ q => q
      | some sl' => exact go sl' d st1 st2 ev hf hx hd
/-! ### blocks -/
def sSeq (f g : FS) : FS := fun sl st => match f sl st with
  | .nx sl1 st1 => g sl1 st1
  | r => r
theorem sss_nil : SSs X ct W [] sNext := fun B hB hc sl st => pss_imp pss_nil fun D σ H ⟨ω, s, q⟩ => q σ ω H .refl s
theorem sss_one {s : Stmt} {f : FS} (h : SS X ct W s f) : SSs X ct W [s] f := fun B hB hc sl st => pss_one (h B hB hc sl st)
theorem sss_cons {s : Stmt} {r : List Stmt} {f g : FS} (h1 : SS X ct W s f) (h2 : SSs X ct W r g) : SSs X ct W (s :: r) (sSeq f g) := by
  intro B hB hc sl st
  have no : ∀ {k : RS}, f sl st = k → (∀ sl1 st1, k ≠ .nx sl1 st1) → PSs X (s :: r) (fun D σ H => ∃ ω, SR B ω H σ sl st ∧ OutS B W ω H (sSeq f g sl st) D) := fun {k} e hn => by
    refine pss_imp (pss_cons (h1 B hB hc sl st) (pss_never (sts := r))) fun D σ H ⟨ω, s, q⟩ => ⟨ω, s, ?_⟩
    unfold sSeq at q
    rw [e] at q ⊢
    cases k with
    | nx sl1 st1 => exact absurd rfl (hn sl1 st1)
    | fail => exact q
    | rt d st1 => exact q
    | rn d st1 => exact q
    | bk sl1 st1 => exact q
    | ct sl1 st1 => exact q
    | exc x sl1 st1 => exact q
  cases hf : f sl st with
  | nx sl1 st1 =>
    refine pss_imp (pss_cons (h1 B hB hc sl st) (h2 B hB hc sl1 st1)) fun D σ H ⟨ω, s, q⟩ => ⟨ω, s, ?_⟩
    unfold sSeq at q
    rw [hf] at q ⊢
    exact fun σ' ω' H' x s' => ⟨ω', s', OutS.up q x⟩
  | fail => exact no hf fun _ _ z => nomatch z
  | rt d st1 => exact no hf fun _ _ z => nomatch z
  | rn d st1 => exact no hf fun _ _ z => nomatch z
  | bk sl1 st1 => exact no hf fun _ _ z => nomatch z
  | ct sl1 st1 => exact no hf fun _ _ z => nomatch z
  | exc x sl1 st1 => exact no hf fun _ _ z => nomatch z
def sIf (t : FT) (f g : FS) : FS := fun sl st => match t sl st with
  | .ok true st1 => f sl st1
  | .ok false st1 => g sl st1
  | .exc x st1 => .exc x sl st1
  | .fail => .fail
theorem ss_if {c : Expr} {a b : List Stmt} {t : FT} {f g : FS} {pos} (h : ST X ct W c t) (h1 : SSs X ct W a f) (h2 : SSs X ct W b g) : SS X ct W (.If c a b pos) (sIf t f g) := by
  intro B hB hc sl st
  cases ht : t sl st with
  | fail =>
    refine ps_imp ps_never fun D σ H ⟨ω, s, q⟩ => ?_
    unfold sIf at q
    rw [ht] at q
    exact q
  | exc x st1 =>
    refine ps_imp (ps_if (h B hB hc sl st) (pss_never (sts := a)) (pss_never (sts := b))) fun D σ H ⟨ω, s, q⟩ => ⟨ω, s, ?_⟩
    unfold sIf at q
    rw [ht] at q ⊢
    exact fun cls d ω' H' e s' r => q cls d σ ω' H' e s' r
  | ok k st1 =>
    refine ps_imp (ps_if (h B hB hc sl st) (h1 B hB hc sl st1) (h2 B hB hc sl st1)) fun D σ H ⟨ω, s, q⟩ => ⟨ω, s, ?_⟩
    unfold sIf at q
    rw [ht] at q ⊢
    intro ω' H' x s'
    cases k with
    | true => rw [if_pos rfl]; exact ⟨ω', s', OutS.up q x⟩
    | false => rw [if_neg Bool.false_ne_true]; exact ⟨ω', s', OutS.up q x⟩
/-! ### loops -/
def sFor (h : FG) (b : FS) : List PyData → FS
  | [], sl, st => .nx sl st
  | d :: ds, sl, st => match h d sl with
    | none => .fail
    | some sl1 => match b sl1 st with
      | .nx sl2 st2 => sFor h b ds sl2 st2
      | .ct sl2 st2 => sFor h b ds sl2 st2
      | .bk sl2 st2 => .nx sl2 st2
      | .rt d st2 => .rt d st2
      | .rn d st2 => .rn d st2
      | .exc x sl2 st2 => .exc x sl2 st2
      | .fail => .fail
end
end Px
namespace Px
open PySem PySem.Spec PyProof.Rows L2

section
variable {X : Cx} {ct : Gx} {W : WX}
/-! ### what a for walks: data, item by item -/
structure Walks (X : Cx) (F : Addr → Prop) (H : Hp) (J : It) (ds : List PyData) : Prop where
  go : ∀ F' H' i, Fr F H F' H' → i < ds.length → J.go i H'
  stop : ∀ F' H' , Fr F H F' H' → J.stop ds.length H'
  yld : ∀ F' H' i x H'' d, Fr F H F' H' → (∀ a, F' a → H' a ≠ none) → ds[i]? = some d → J.yld i H' x H'' → ∃ F'', PEx F' H' F'' H'' ∧ Rp X.K F'' H'' x d
abbrev FI := Sls → Sto → Re (List PyData)
def OutI (B : Bs) (W : WX) (X : Cx) (σ : L2.St) (ω : Wd) (H : Hp) (sl : Sls) (r : Re (List PyData)) (R : It → Hp → Prop) : Prop := match r with
  | .fail => False
  | .ok ds st => ∀ J ω' H', Ext B ω H ω' H' → SR B ω' H' σ sl st → Walks X ω'.F H' J ds → R J H'
  | .exc x st => ∀ cls d ω' H', Ext B ω H ω' H' → SR B ω' H' σ sl st → ExR B x cls d H' → W cls d σ H'
def SI (X : Cx) (ct : Gx) (W : WX) (tg it : Expr) (f : FI) : Prop := ∀ (B : Bs), B.K = X.K → B.ct = ct → ∀ sl st, PI X tg it (fun σ H R => ∃ ω, SR B ω H σ sl st ∧ OutI B W X σ ω H sl (f sl st) R)
theorem pi_imp {tg it : Expr} {t t' : TI} (h : PI X tg it t) (i : ∀ σ H R, t' σ H R → t σ H R) : PI X tg it t' := ⟨fun pins s σ H R I q => h.run pins s σ H R I (i _ _ _ q)⟩
def iSeq (f : FE) : FI := fun sl st => match f sl st with
  | .fail => .fail
  | .exc x st1 => .exc x st1
  | .ok ev st1 => match ev.fix st1 with
    | some (.list ds, st2) => .ok ds st2
    | some (.tuple ds, st2) => .ok ds st2
    | _ => .fail
theorem walks_list {F : Addr → Prop} {H : Hp} {a : Addr} {xs : List V} {ds : List PyData} (f : FzL X.K F H a xs) (r : RpA X.K F H xs ds) : Walks X F H (Itl X.K a) ds where
  go := fun F' H' i e hi => by
    have hx : i < xs.length := by rw [r.length]; exact hi
    exact ⟨xs, xs[i], (f.mono e).sq, List.getElem?_eq_getElem hx⟩
  stop := fun F' H' e => ⟨xs, (f.mono e).sq, by rw [r.length]; exact Nat.le_refl _⟩
  yld := fun F' H' i x H'' d e dm hd hy => by
    obtain ⟨rfl, fv⟩ := hy
    obtain ⟨v, h1, h2⟩ := r.get hd
    have := fv xs (f.mono e).sq
    rw [h1] at this
    cases this
    exact ⟨F', PEx.refl dm, h2.up e⟩
theorem walks_tup {F : Addr → Prop} {H : Hp} {a : Addr} {xs : List V} {ds : List PyData} (f : FzT X.K F H a xs) (r : RpA X.K F H xs ds) : Walks X F H (Itt X.K a) ds where
  go := fun F' H' i e hi => by
    have hx : i < xs.length := by rw [r.length]; exact hi
    exact ⟨xs, xs[i], (f.mono e).sq, List.getElem?_eq_getElem hx⟩
  stop := fun F' H' e => ⟨xs, (f.mono e).sq, by rw [r.length]; exact Nat.le_refl _⟩
  yld := fun F' H' i x H'' d e dm hd hy => by
    obtain ⟨rfl, fv⟩ := hy
    obtain ⟨v, h1, h2⟩ := r.get hd
    have := fv xs (f.mono e).sq
    rw [h1] at this
    cases this
    exact ⟨F', PEx.refl dm, h2.up e⟩
theorem si_seq {tg e : Expr} {f : FE} (h : SE X ct W e f) (rl : ∀ tl, PE X e tl → PI X tg e (iList X.K tl)) (rt : ∀ tl, PE X e tl → PI X tg e (iTup X.K tl)) : SI X ct W tg e (iSeq f) := by
  intro B hB hc sl st
  unfold iSeq
  cases hf : f sl st with
  | fail =>
    refine pi_imp (rl _ (h B hB hc sl st)) fun σ H R ⟨ω, s, q⟩ => q.elim
  | exc x st1 =>
    refine pi_imp (rl _ (h B hB hc sl st)) fun σ H R ⟨ω, s, q⟩ => ⟨ω, s, ?_⟩
    rw [hf]
    exact q
  | ok ev st1 =>
    dsimp only
    cases hx : ev.fix st1 with
    | none => exact pi_imp (rl _ (h B hB hc sl st)) fun σ H R ⟨ω, s, q⟩ => q.elim
    | some p =>
      obtain ⟨d, st2⟩ := p
      cases d with
      | list ds =>
        refine pi_imp (rl _ (h B hB hc sl st)) fun σ H R ⟨ω, s, q⟩ => ⟨ω, s, ?_⟩
        rw [hf]
        intro v ω' H' x s' hv
        obtain ⟨ω2, x2, s2, r2⟩ := VR.fix s' hv hx
        rw [hB] at r2
        cases r2 with
        | lst f2 r2 => exact ⟨_, rfl, ⟨_, f2.sq⟩, q _ ω2 H' (x.trans x2) s2 (walks_list f2 r2)⟩
      | tuple ds =>
        refine pi_imp (rt _ (h B hB hc sl st)) fun σ H R ⟨ω, s, q⟩ => ⟨ω, s, ?_⟩
        rw [hf]
        intro v ω' H' x s' hv
        obtain ⟨ω2, x2, s2, r2⟩ := VR.fix s' hv hx
        rw [hB] at r2
        cases r2 with
        | tup f2 r2 => exact ⟨_, rfl, ⟨_, f2.sq⟩, q _ ω2 H' (x.trans x2) s2 (walks_tup f2 r2)⟩
      | none => exact pi_imp (rl _ (h B hB hc sl st)) fun σ H R ⟨ω, s, q⟩ => q.elim
      | bool _ => exact pi_imp (rl _ (h B hB hc sl st)) fun σ H R ⟨ω, s, q⟩ => q.elim
      | int _ => exact pi_imp (rl _ (h B hB hc sl st)) fun σ H R ⟨ω, s, q⟩ => q.elim
      | str _ => exact pi_imp (rl _ (h B hB hc sl st)) fun σ H R ⟨ω, s, q⟩ => q.elim
      | dict _ => exact pi_imp (rl _ (h B hB hc sl st)) fun σ H R ⟨ω, s, q⟩ => q.elim
/-- a text's signs -/
def signs (x : Str) : List PyData := x.cps.toList.map fun c => .str ⟨#[c]⟩
def iText (f : FE) : FI := fun sl st => match f sl st with
  | .fail => .fail
  | .exc x st1 => .exc x st1
  | .ok (.val (.str x)) st1 => .ok (signs x) st1
  | .ok _ _ => .fail
theorem si_text {tg e : Expr} {f : FE} (h : SE X ct W e f) (rl : ∀ tl, PE X e tl → PI X tg e (iStr tl)) : SI X ct W tg e (iText f) := by
  intro B hB hc sl st
  refine pi_imp (rl _ (h B hB hc sl st)) fun σ H R ⟨ω, s, q⟩ => ⟨ω, s, ?_⟩
  unfold iText at q
  cases hf : f sl st with
  | fail => rw [hf] at q; exact q
  | exc x st1 => rw [hf] at q; exact q
  | ok ev st1 =>
    rw [hf] at q
    intro v ω' H' x s' hv
    cases ev with
    | bor n => exact q.elim
    | new o => exact q.elim
    | lost => exact q.elim
    | val d =>
      cases d with
      | str y =>
        have hv' : Rp B.K ω'.F H' v (.str y) := hv
        have k := (Bp.rp hv').ok_
        cases hv'
        refine ⟨y, rfl, q _ ω' H' x s' ⟨fun F2 H2 i e hi => ?_, fun F2 H2 e => ?_, fun F2 H2 i x2 H3 d e dm hd hy => ?_⟩⟩
        · unfold signs at hi
          rw [List.length_map] at hi
          show i < y.cps.size
          simpa using hi
        · show y.cps.size ≤ (signs y).length
          unfold signs
          rw [List.length_map]
          simp
        · obtain ⟨rfl, c, hc1, hc2⟩ := hy
          subst hc2
          unfold signs at hd
          rw [List.getElem?_map] at hd
          have hc1' : y.cps.toList[i]? = some c := by simpa using hc1
          rw [hc1'] at hd
          cases hd
          exact ⟨F2, PEx.refl dm, .str _ (by rw [strOk_iff] at *; intro c2 h2; simp at h2; subst h2; exact k _ (List.mem_of_getElem? hc1'))⟩
      | none => exact q.elim
      | bool _ => exact q.elim
      | int _ => exact q.elim
      | list _ => exact q.elim
      | tuple _ => exact q.elim
      | dict _ => exact q.elim
/-- lo, lo + 1, .. -/
def rngL (lo : Int) (n : Nat) : List PyData := (List.range n).map fun (i : Nat) => .int (lo + (i : Int))
theorem rngL_len (lo : Int) (n : Nat) : (rngL lo n).length = n := by
  unfold rngL
  rw [List.length_map, List.length_range]
theorem walks_range {F : Addr → Prop} {H : Hp} {lo : Int} {n : Nat} : Walks X F H (Itr lo n) (rngL lo n) where
  go := fun F' H' i e hi => by
    rw [rngL_len] at hi
    exact hi
  stop := fun F' H' e => by
    show n ≤ (rngL lo n).length
    rw [rngL_len]
    exact Nat.le_refl _
  yld := fun F' H' i x H'' d e dm hd hy => by
    obtain ⟨rfl, rfl⟩ := hy
    unfold rngL at hd
    rw [List.getElem?_map] at hd
    cases h : (List.range n)[i]? with
    | none => rw [h] at hd; cases hd
    | some j =>
      rw [h] at hd
      cases hd
      have hj : j = i := by
        obtain ⟨h1, h2⟩ := List.getElem?_eq_some_iff.mp h
        simp at h2
        exact h2.symm
      subst hj
      exact ⟨F', PEx.refl dm, .int _⟩
abbrev Small (n : Int) : Prop := -4611686018427387904 ≤ n ∧ n < 4611686018427387904
def iR1 (f : FE) : FI := fun sl st => match f sl st with
  | .fail => .fail
  | .exc x st1 => .exc x st1
  | .ok (.val (.int n)) st1 => if Small n then .ok (rngL 0 n.toNat) st1 else .fail
  | .ok _ _ => .fail
theorem si_range1 {tg a : Expr} {f : FE} {p pos} (h : SE X ct W a f) (hg : Gl X "range") (hm : X.mg "range" = none) (hs : starEach [a] X.env = (false, eval a X.env) :: starEach [] X.env := by rfl) : SI X ct W tg (.Call (.Name "range" p) [a] [] pos) (iR1 f) := by
  intro B hB hc sl st
  refine pi_imp (pi_range1 hg hm (pa_cons (h B hB hc sl st) pa_nil hs) hs) fun σ H R ⟨ω, s, q⟩ => ⟨ω, s, ?_⟩
  unfold iR1 at q
  cases hf : f sl st with
  | fail => rw [hf] at q; exact q
  | exc x st1 => rw [hf] at q; exact q
  | ok ev st1 =>
    rw [hf] at q
    intro v ω' H' x s' hv
    cases ev with
    | bor n => exact q.elim
    | new o => exact q.elim
    | lost => exact q.elim
    | val d =>
      cases d with
      | int n =>
        have hv' : Rp B.K ω'.F H' v (.int n) := hv
        cases hv'
        dsimp only at q
        split at q
        · rename_i hn
          exact ⟨n, rfl, hn.1, hn.2, q _ ω' H' x s' walks_range⟩
        · exact q.elim
      | none => exact q.elim
      | bool _ => exact q.elim
      | str _ => exact q.elim
      | list _ => exact q.elim
      | tuple _ => exact q.elim
      | dict _ => exact q.elim
/-! ### for -/
def sForI (fi : FI) (h : FG) (b : FS) : FS := fun sl st => match fi sl st with
  | .fail => .fail
  | .exc x st1 => .exc x sl st1
  | .ok ds st1 => sFor h b ds sl st1
theorem SSs.all {b : List Stmt} {f : FS} (h : SSs X ct W b f) {B : Bs} (hB : B.K = X.K) (hc : B.ct = ct) : PSs X b (fun D σ H => ∃ sl st ω, SR B ω H σ sl st ∧ OutS B W ω H (f sl st) D) :=
  ⟨fun pins s σ H D I ⟨sl, st, q⟩ => (h B hB hc sl st).run pins s σ H D I q⟩
theorem SG.all {tg : Expr} {h : FG} {ts : List Nat} (g : SG X ts tg h) {B : Bs} (hB : B.K = X.K) : PG X tg (fun v σ H Q => ∃ sl sl' st d ω, h d sl = some sl' ∧ SR B ω H σ sl st ∧ Rp B.K ω.F H v d ∧ ∀ σ', Ts ts σ σ' → SR B ω H σ' sl' st → Q σ' H) :=
  ⟨fun pins s σ H v u Q I r ⟨sl, sl', st, d, ω, e, q⟩ => (g B hB sl sl' st d e).run pins s σ H v u Q I r ⟨ω, q⟩⟩
theorem ss_for {tg it : Expr} {body : List Stmt} {fi : FI} {h : FG} {b : FS} {pos} {ts : List Nat} (hp : PassesOwn (model X.prog X.w) X.A X.env X.xe) (hcalm : X.calm = true) (hi : SI X ct W tg it fi) (hg : SG X ts tg h) (hb : SSs X ct W body b)
    (hs : ∀ x, foldedSetIterable it X.env x = pure x := by intro _; rfl) : SS X ct W (.For tg it body [] pos) (sForI fi h b) := by
  intro B hB hc sl st
  refine ps_imp (ps_for hp hcalm (hi B hB hc sl st) (hg.all hB) (hb.all hB hc) hs) fun D σ H ⟨ω, s, q⟩ => ⟨ω, s, ?_⟩
  unfold sForI at q
  cases hf : fi sl st with
  | fail => rw [hf] at q; exact q
  | exc x st1 => rw [hf] at q; exact fun cls d ω' H' e s' r => q cls d σ ω' H' e s' r
  | ok ds st1 =>
    rw [hf] at q
    dsimp only at q
    intro J ω1 H1 x1 s1 wk
    refine ⟨fun i m σ' H' => i + m = ds.length ∧ ∃ ω' sl' st', SR B ω' H' σ' sl' st' ∧ Ext B ω1 H1 ω' H' ∧ OutS B W ω' H' (sFor h b (ds.drop i) sl' st') D, ⟨ds.length, by omega, ω1, sl, st1, s1, .refl, by rw [List.drop_zero]; exact OutS.up q x1⟩, ?_⟩
    rintro i m σ' H' ⟨em, ω', sl', st', s', e', q'⟩
    by_cases hi : i < ds.length
    · refine .inr ⟨wk.go _ _ i e'.fr hi, ?_⟩
      have hd : ds[i]? = some ds[i] := List.getElem?_eq_getElem hi
      rw [List.drop_eq_getElem_cons hi] at q'
      unfold sFor at q'
      cases hh : h ds[i] sl' with
      | none => rw [hh] at q'; exact q'.elim
      | some sl2 =>
        rw [hh] at q'
        dsimp only at q'
        refine ⟨fun σ3 H3 => ∃ ω3 sl3 st3, SR B ω3 H3 σ3 sl3 st3 ∧ Ext B ω1 H1 ω3 H3 ∧ OutS B W ω3 H3 (sFor h b (ds.drop (i + 1)) sl3 st3) D, fun σ3 H3 ⟨ω3, sl3, st3, s3, e3, q3⟩ => ⟨m - 1, by omega, by omega, ω3, sl3, st3, s3, e3, q3⟩, fun x H2 hy => ?_⟩
        obtain ⟨F2, px, rx⟩ := wk.yld _ _ i x H2 _ e'.fr s'.dom hd hy
        refine ⟨sl', sl2, st', ds[i], ⟨F2, ω'.ad⟩, hh, s'.pure px, by rw [hB]; exact rx, fun σ2 _ s2 => ?_⟩
        have e2 : Ext B ω' H' ⟨F2, ω'.ad⟩ H2 := s'.px px
        refine ⟨sl2, st', _, s2, ?_⟩
        cases hb2 : b sl2 st' with
        | fail => rw [hb2] at q'; exact q'.elim
        | nx sl4 st4 =>
          rw [hb2] at q'
          exact fun σ5 ω5 H5 x5 s5 => ⟨ω5, sl4, st4, s5, (e'.trans e2).trans x5, OutS.up q' (e2.trans x5)⟩
        | ct sl4 st4 =>
          rw [hb2] at q'
          exact fun σ5 ω5 H5 x5 s5 => ⟨ω5, sl4, st4, s5, (e'.trans e2).trans x5, OutS.up q' (e2.trans x5)⟩
        | bk sl4 st4 =>
          rw [hb2] at q'
          exact fun σ5 ω5 H5 x5 s5 => q' σ5 ω5 H5 (e2.trans x5) s5
        | rt d st4 =>
          rw [hb2] at q'
          exact fun v5 σ5 ω5 H5 sl5 x5 => q' v5 σ5 ω5 H5 sl5 (e2.trans x5)
        | rn d st4 =>
          rw [hb2] at q'
          exact fun v5 σ5 ω5 H5 sl5 x5 => q' v5 σ5 ω5 H5 sl5 (e2.trans x5)
        | exc x4 sl4 st4 =>
          rw [hb2] at q'
          exact fun cls5 d5 σ5 ω5 H5 x5 => q' cls5 d5 σ5 ω5 H5 (e2.trans x5)
    · have hi' : i = ds.length := by omega
      subst hi'
      refine .inl ⟨wk.stop _ _ e'.fr, ?_⟩
      rw [List.drop_length] at q'
      exact q' σ' ω' H' .refl s'
/-! ### while -/
theorem ST.all {c : Expr} {t : FT} (h : ST X ct W c t) {B : Bs} (hB : B.K = X.K) (hc : B.ct = ct) : PT X c (fun σ H Q => ∃ sl st ω, SR B ω H σ sl st ∧ OutT B W σ ω H sl (t sl st) Q) :=
  ⟨fun pins s σ H Q I ⟨sl, st, q⟩ => (h B hB hc sl st).run pins s σ H Q I q⟩
end
end Px
namespace Px
open PySem PySem.Spec PyProof.Rows L2

/-! ### a def as a function -/
inductive Arg where
  | val (d : PyData)
  | io (o : MO)
def slots0 : List Arg → Nat → Sls
  | [], _ => []
  | .val d :: r, n => .val d :: slots0 r n
  | .io _ :: r, n => .ref n :: slots0 r (n + 1)
def cells0 : List Arg → Sto
  | [] => []
  | .val _ :: r => cells0 r
  | .io o :: r => .io o :: cells0 r
def outs : Sto → List MO
  | .io o :: r => o :: outs r
  | _ => []
inductive DR where
  | fail
  | rt (d : PyData) (os : List MO)
  | rn (o : MO) (os : List MO)
  | exc (x : Exn) (os : List MO)
abbrev FD := List Arg → DR
def endD : RS → DR
  | .nx _ st => .rt .none (outs st)
  | .rt d st => .rt d (outs st)
  | .rn o st => .rn o (outs st)
  | .exc x _ st => .exc x (outs st)
  | _ => .fail
def runD (n : Nat) (g : FS) : FD := fun args => endD (g (slots0 args 0 ++ List.replicate (n - args.length) .non) (cells0 args))
inductive ArgsR (K : PySem.W.Frag) (F : Addr → Prop) (H : Hp) : List V → List Arg → List Addr → Prop
  | nil : ArgsR K F H [] [] []
  | val {v : V} {d : PyData} {vs : List V} {as : List Arg} {l : List Addr} : Rp K F H v d → ArgsR K F H vs as l → ArgsR K F H (v :: vs) (.val d :: as) l
  | io {p : Addr} {o : MO} {vs : List V} {as : List Arg} {l : List Addr} : ¬ F p → MOR K F H p o → ArgsR K F H vs as l → ArgsR K F H (.ref p :: vs) (.io o :: as) (p :: l)
def IoR (K : PySem.W.Frag) (F : Addr → Prop) (H : Hp) : List Addr → List MO → Prop := Paired fun p o => ¬ F p ∧ MOR K F H p o
structure Post (K : PySem.W.Frag) (F : Addr → Prop) (H : Hp) (io : List Addr) (F' : Addr → Prop) (H' : Hp) (os : List MO) : Prop where
  fr : Fr F H F' H'
  keep : ∀ a o, H a = some o → a ∉ io → H' a = some o
  new : ∀ a, F' a → F a ∨ H a = none
  dom : ∀ a, F' a → H' a ≠ none
  out : IoR K F' H' io os
def OutD (K : PySem.W.Frag) (ct : Gx) (F : Addr → Prop) (H : Hp) (io : List Addr) (r : DR) (Q : VK) (E : XK) : Prop := match r with
  | .fail => False
  | .rt d os => ∀ v F' H', Post K F H io F' H' os → Rp K F' H' v d → Q v H'
  | .rn o os => ∀ p F' H', Post K F H io F' H' os → H p = none → ¬ F' p → MOR K F' H' p o → Q (.ref p) H'
  | .exc x os => ∀ cls dd F' H' C, Post K F H io F' H' os → ct.tab x.nm = some C → cls = .ref C → dd = none → x.num = none → E cls dd H'
def spOf (K : PySem.W.Frag) (ct : Gx) (n : Nat) (D : FD) : Sp := fun vs H Q E => ∃ F args io, vs.length = n ∧ ArgsR K F H vs args io ∧ (∀ a, F a → H a ≠ none) ∧ io.Nodup ∧ OutD K ct F H io (D args) Q E

theorem ArgsR.length {K : PySem.W.Frag} {F : Addr → Prop} {H : Hp} : ∀ {vs : List V} {as : List Arg} {io : List Addr}, ArgsR K F H vs as io → vs.length = as.length
  | _, _, _, .nil => rfl
  | _, _, _, .val _ r => congrArg (· + 1) r.length
  | _, _, _, .io _ _ r => congrArg (· + 1) r.length
theorem ArgsR.cells {K : PySem.W.Frag} {F : Addr → Prop} {H : Hp} : ∀ {vs : List V} {as : List Arg} {io : List Addr}, ArgsR K F H vs as io → IoR K F H io (outs (cells0 as)) ∧ (cells0 as).length = io.length ∧ ∀ (n : Nat) (c : Cell), (cells0 as)[n]? = some c → ∃ o, c = .io o
  | _, _, _, .nil => ⟨.nil, rfl, fun n c h => by cases h⟩
  | _, _, _, .val _ r => r.cells
  | _, _, _, .io h m r => ⟨.cons ⟨h, m⟩ r.cells.1, congrArg (· + 1) r.cells.2.1, fun n c e => by
      cases n with
      | zero => cases e; exact ⟨_, rfl⟩
      | succ n => exact r.cells.2.2 n c e⟩
theorem IoR.get {K : PySem.W.Frag} {F : Addr → Prop} {H : Hp} : ∀ {io : List Addr} {st : Sto} {n : Nat} {o : MO} {p : Addr}, IoR K F H io (outs st) → st[n]? = some (.io o) → io[n]? = some p → (∀ m c, m ≤ n → st[m]? = some c → ∃ o, c = .io o) → ¬ F p ∧ MOR K F H p o
  | _, [], _, _, _, _, h, _, _ => by cases h
  | _, c :: st, 0, o, p, r, h, h2, _ => by
    cases h
    cases r with
    | cons a b => cases h2; exact a
  | _, c :: st, n + 1, o, p, r, h, h2, k => by
    obtain ⟨o', rfl⟩ := k 0 c (Nat.zero_le _) rfl
    cases r with
    | cons a b => exact IoR.get (n := n) b h h2 fun m c hm e => k (m + 1) c (Nat.succ_le_succ hm) e
theorem ArgsR.slots {K : PySem.W.Frag} {F : Addr → Prop} {H : Hp} : ∀ {vs : List V} {as : List Arg} {io io0 : List Addr}, ArgsR K F H vs as io → ∀ (i : Nat) (s : Sl), (slots0 as io0.length)[i]? = some s → ∀ g : Gx, SlR K F (io0 ++ io) g H (vs.map some)[i]? s
  | _, _, _, _, .nil, i, s, h, _ => by cases h
  | _, _, _, io0, .val (v := v) (d := d) rv r, i, s, h, g => by
    cases i with
    | zero => cases h; exact ⟨v, rfl, rv⟩
    | succ i => exact r.slots (io0 := io0) i s h g
  | _, _, _, io0, @ArgsR.io _ _ _ p _ _ _ _ hf m r, i, s, h, g => by
    cases i with
    | zero => cases h; exact ⟨p, by simp, rfl⟩
    | succ i =>
      have := r.slots (io0 := io0 ++ [p]) i s (by rw [List.length_append]; exact h) g
      rw [List.append_assoc] at this
      exact this
theorem slots0_len : ∀ (as : List Arg) (n : Nat), (slots0 as n).length = as.length
  | [], _ => rfl
  | .val _ :: r, n => congrArg (· + 1) (slots0_len r n)
  | .io _ :: r, n => congrArg (· + 1) (slots0_len r (n + 1))
section
variable {K : PySem.W.Frag} {ct : Gx}
/-- the state at a def's entry -/
theorem SR.start {F : Addr → Prop} {H : Hp} {vs : List V} {as : List Arg} {io : List Addr} {N : List Str} (r : ArgsR K F H vs as io) (dm : ∀ a, F a → H a ≠ none) (nd : io.Nodup) (hN : as.length ≤ N.length) :
    SR ⟨K, H, F, io, ct, []⟩ ⟨F, io⟩ H (L2.start N vs) (slots0 as 0 ++ List.replicate (N.length - as.length) .non) (cells0 as) where
  len := by
    unfold L2.start
    rw [List.length_append, List.length_append, List.length_map, List.length_replicate, List.length_replicate, slots0_len, r.length]
  dom := dm
  keep := fun a o h _ => h
  newF := fun a h => .inl h
  oldF := fun a h => h
  adl := r.cells.2.1.symm
  nd := nd
  iop := List.prefix_refl _
  adn := fun p hp => .inl hp
  ioc := fun n c _ h => r.cells.2.2 n c h
  ioc2 := fun n o h => by
    have := (List.getElem?_eq_some_iff.mp h).1
    rw [r.cells.2.1] at this
    exact this
  there := fun p hp => by
    obtain ⟨n, hn, e⟩ := List.getElem_of_mem hp
    have hc : n < (cells0 as).length := by rw [r.cells.2.1]; exact hn
    obtain ⟨o, ho⟩ := r.cells.2.2 n _ (List.getElem?_eq_getElem hc)
    have := IoR.get r.cells.1 (by rw [List.getElem?_eq_getElem hc, ho]) (List.getElem?_eq_getElem hn) fun m c _ h => r.cells.2.2 m c h
    rw [e] at this
    exact this.2.some
  prF := fun p hp => absurd hp (by simp)
  prA := fun p hp => absurd hp (by simp)
  prH := fun p hp => absurd hp (by simp)
  slot := fun i s h => by
    unfold L2.start
    by_cases hi : i < as.length
    · rw [List.getElem?_append_left (by rw [slots0_len]; exact hi)] at h
      rw [List.getElem?_append_left (by rw [List.length_map, r.length]; exact hi)]
      have := r.slots (io0 := []) i s h ct
      exact this
    · rw [List.getElem?_append_right (by rw [slots0_len]; omega), List.getElem?_replicate] at h
      split at h
      · cases h; exact trivial
      · cases h
  cell := fun n c p h1 h2 => by
    obtain ⟨o, rfl⟩ := r.cells.2.2 n c h1
    exact IoR.get r.cells.1 h1 h2 fun m c _ h => r.cells.2.2 m c h
/-- what stands in the things handed in at the end -/
theorem outs_ok {g : Gx} {K : PySem.W.Frag} {F : Addr → Prop} {H : Hp} : ∀ {io ad : List Addr} {st : Sto}, io <+: ad → ad.length = st.length → (∀ (n : Nat) (c : Cell), n < io.length → st[n]? = some c → ∃ o, c = .io o) → (∀ (n : Nat) (o : MO), st[n]? = some (.io o) → n < io.length) →
    (∀ (n : Nat) (c : Cell) (p : Addr), st[n]? = some c → ad[n]? = some p → CellR g K F H p c) → IoR K F H io (outs st)
  | [], ad, st, _, _, _, h2, _ => by
    cases st with
    | nil => exact .nil
    | cons c st =>
      cases c with
      | live o => exact .nil
      | fz d => exact .nil
      | kd kvs => exact .nil
      | io o => exact absurd (h2 0 o rfl) (by simp)
  | p :: io, ad, st, pre, hl, h1, h2, h3 => by
    obtain ⟨t, rfl⟩ := pre
    cases st with
    | nil => simp at hl
    | cons c st =>
      obtain ⟨o, rfl⟩ := h1 0 c (by simp) rfl
      have q := h3 0 (.io o) p rfl rfl
      refine .cons q (outs_ok (ad := io ++ t) ⟨t, rfl⟩ (by simpa using hl) (fun n c hn e => h1 (n + 1) c (by simpa using hn) e) (fun n o e => by have := h2 (n + 1) o e; simpa using this) fun n c p e1 e2 => h3 (n + 1) c p e1 e2)
theorem SR.post {F : Addr → Prop} {H : Hp} {io : List Addr} {ω : Wd} {H' : Hp} {σ : L2.St} {sl : Sls} {st : Sto} {pr : List Addr} (dm : ∀ a, F a → H a ≠ none) (hio : ∀ p ∈ io, ¬ F p) (s : SR ⟨K, H, F, io, ct, pr⟩ ω H' σ sl st) : Post K F H io ω.F H' (outs st) where
  fr := fun a h => ⟨s.oldF a h, by
    cases e : H a with
    | none => exact absurd e (dm a h)
    | some o => exact s.keep a o e fun z => hio a z h⟩
  keep := s.keep
  new := s.newF
  dom := s.dom
  out := outs_ok s.iop s.adl s.ioc s.ioc2 s.cell
theorem ArgsR.nf {F : Addr → Prop} {H : Hp} : ∀ {vs : List V} {as : List Arg} {io : List Addr}, ArgsR K F H vs as io → ∀ p ∈ io, ¬ F p
  | _, _, _, .nil, p, h => by cases h
  | _, _, _, .val _ r, p, h => r.nf p h
  | _, _, _, .io hf _ r, p, h => by
    rcases List.mem_cons.mp h with h | h
    · subst h; exact hf
    · exact r.nf p h
/-- as FnOk, where no repr is under way (so repr of what is nested is known) -/
structure FnG (P : Program) (w : World) (K : PySem.W.Frag) (mg : Str → Option Value) (base : Heap) (C : CXT) (k : Nat) (f : Addr) (fd : FuncData) (ps : List Str) (sp : Sp) : Prop where
  len : ∀ vs H Q E, sp vs H Q E → vs.length = ps.length
  run : ∀ (A : Around) (outer : List Env) (s : Shared) (H : Hp) (args : Args) (us : List Value) (vs : List V) (Q : VK) (E : XK), Room k A → A.guards = some [] → Env0 P w K mg base A outer s H → BindsTo s fd args (ps.zip us) → Vals vs us →
    sp vs H Q E → codeAny (model P w) A (.call (.ref f) args) (CR C outer P w H s Q E) s
theorem FnG.mono {P : Program} {w : World} {mg : Str → Option Value} {base : Heap} {C : CXT} {j k : Nat} {f : Addr} {fd : FuncData} {ps : List Str} {sp : Sp} (F : FnG P w K mg base C j f fd ps sp) (h : j ≤ k) : FnG P w K mg base C k f fd ps sp :=
  ⟨F.len, fun A outer s H args us vs Q E hr => F.run A outer s H args us vs Q E (hr.mono h)⟩
/-- THE RULE for a def -/
theorem def_ok {P : Program} {w : World} {mg : Str → Option Value} {base : Heap} {x qual : Str} {st : Stmt} {f : Addr} {fd : FuncData} {N ps : List Str} {k : Nat} {g : FS} (F : Fun K x qual st f fd) (S : FnScope N ps (defScope st))
    (hbody : ∀ (cdv : Value) (A : Around) (outer : List Env) (s : Shared) (H : Hp) (E : XK), Room k (A.deeper (envOfC qual (defScope st) s.heap.objs.size f cdv)) → A.guards = some [] →
      SSs (cxOf (L2.CX P w) P w K mg base N qual (defScope st) f cdv A outer s H E) ct (fun cls d _ H => E cls d H) (defBody st) g) :
    FnG P w K mg base (L2.CX P w) (k + 1) f fd ps (spOf K ct ps.length (runD N.length g)) := by
  obtain ⟨oc, od, kV, doc, pm, an, cdv, ctv, osl, rfl, lk, hcd⟩ := F.ex
  refine ⟨fun vs H Q E ⟨_, _, _, h, _⟩ => h, ?_⟩
  intro A outer s H cargs us vs Q E room quiet e0 binds rel ⟨F0, args, io, hl, ra, dm, nd, q⟩
  have kin : K.In s.heap := e0.mod.kin.keeps fun b o e => (e0.bs b o e).1
  refine codeAny_call_function room.depth (kin _ _ lk) rfl S.co S.gen rfl (PySem.W.codeRec_of kin hcd) (binds _ _ _ _ ?_)
  have kinds : ∀ y ∈ ps.zip us, (defScope st).names.lookup y.1 = some .local ∨ ((defScope st).names.lookup y.1 = some .cell ∧ ((cellsFrom (s.heap.objs.size + 1) (defScope st).names []).lookup y.1).isSome = true) := by
    intro y hy
    rcases S.par y.1 (List.of_mem_zip hy).1 with loc | cel
    · exact Or.inl loc
    · exact Or.inr ⟨cel, PySem.W.cellsFrom_some _ _ _ (Or.inl cel)⟩
  refine wpAny_newFunctionEnv_cells S.kind kinds fun env he s1 x => ?_
  subst he
  have nolim : s.heap.NoLimit := e0.mod.nolimit.keeps fun b o e => (e0.bs b o e).1
  refine ⟨nolim.keeps x.toInCall.keep, codeAny_func ?_⟩
  have I := inv_start (CX := L2.CX P w) (E := E) S room.hd e0 hl rel x
  have hpl : ps.length ≤ N.length := by have := congrArg List.length S.pre; rw [List.length_take] at this; omega
  have body := (hbody cdv A outer s H E (room.deeper _) quiet ⟨K, H, F0, io, ct, []⟩ rfl rfl (slots0 args 0 ++ List.replicate (N.length - args.length) .non) (cells0 args)).run [] s1 (L2.start N vs) H { nx := fun _ H' => Q .non H', rt := Q } I
    ⟨⟨F0, io⟩, SR.start ra dm nd (by rw [← ra.length, hl]; exact hpl), ?_⟩
  · refine wpAny_mono body (fun fl s' hs => ?_) fun e s' hs => hs
    cases fl with
    | brk => obtain ⟨_, _, _, no⟩ := hs; exact no.elim
    | cont => obtain ⟨_, _, _, no⟩ := hs; exact no.elim
    | next =>
      obtain ⟨σ', H', J, done⟩ := hs
      exact ⟨V.non, H', J.os, J.bare, J.base, J.hok, rfl, done⟩
    | ret u =>
      obtain ⟨v, σ', H', J, rv, done⟩ := hs
      exact ⟨v, H', J.os, J.bare, J.base, J.hok, rv, done⟩
  · unfold runD endD at q
    cases hg : g (slots0 args 0 ++ List.replicate (N.length - args.length) .non) (cells0 args) with
    | fail => rw [hg] at q; exact q
    | bk _ _ => rw [hg] at q; exact q.elim
    | ct _ _ => rw [hg] at q; exact q.elim
    | nx sl st => rw [hg] at q; exact fun σ' ω' H' e s' => q .non ω'.F H' (SR.post dm ra.nf s') .non
    | rt d st => rw [hg] at q; exact fun v σ' ω' H' sl e s' r => q v ω'.F H' (SR.post dm ra.nf s') r
    | rn o st =>
      rw [hg] at q
      exact fun v σ' ω' H' sl e s' ⟨p, ev, _, ⟨h0, _⟩, nf, mo⟩ => by
        rw [ev]
        exact q p ω'.F H' (SR.post dm ra.nf s') h0 nf mo
    | exc x sl st =>
      rw [hg] at q
      exact fun cls d σ' ω' H' e s' ⟨C, h1, h2, h3, h4⟩ => q cls d ω'.F H' C (SR.post dm ra.nf s') h1 h2 h3 h4
end

/-! ### a call -/
def fixM : List Bool → List EV → Sto → Option (List (PyData ⊕ Nat) × Sto)
  | [], [], st => some ([], st)
  | false :: ms, ev :: evs, st => match ev.fix st with
    | none => none
    | some (d, st1) => match fixM ms evs st1 with
      | none => none
      | some (r, st2) => some (.inl d :: r, st2)
  | true :: ms, .bor n :: evs, st => match fixM ms evs st with
    | none => none
    | some (r, st2) => some (.inr n :: r, st2)
  | _, _, _ => none
def argsM (st : Sto) : List (PyData ⊕ Nat) → Option (List Arg × List Nat)
  | [] => some ([], [])
  | .inl d :: r => match argsM st r with
    | none => none
    | some (as, ns) => some (.val d :: as, ns)
  | .inr n :: r => match st[n]?, argsM st r with
    | some (.live o), some (as, ns) => some (.io o :: as, n :: ns)
    | some (.io o), some (as, ns) => some (.io o :: as, n :: ns)
    | _, _ => none
def putC (c : Cell) (o : MO) : Cell := match c with
  | .io _ => .io o
  | _ => .live o
def putAll : Sto → List Nat → List MO → Sto
  | st, n :: ns, o :: os => putAll (match st[n]? with
    | some c => st.set n (putC c o)
    | none => st) ns os
  | st, _, _ => st
def eCall (D : FD) (ms : List Bool) (f : FA) : FE := fun sl st => match f sl st with
  | .fail => .fail
  | .exc x st1 => .exc x st1
  | .ok evs st1 => match fixM ms evs st1 with
    | none => .fail
    | some (rs, st2) => match argsM st2 rs with
      | none => .fail
      | some (as, ns) => if ns.Nodup then (match D as with
        | .fail => .fail
        | .rt d os => if os.length = ns.length then .ok (.val d) (putAll st2 ns os) else .fail
        | .rn o os => if os.length = ns.length then .ok (.new o) (putAll st2 ns os) else .fail
        | .exc x os => if os.length = ns.length then .exc x (putAll st2 ns os) else .fail) else .fail
section
variable {B : Bs} {σ : L2.St} {sl : Sls}
/-- arguments made data, or things of the store -/
def ARel (K : PySem.W.Frag) (ω : Wd) (H : Hp) : V → PyData ⊕ Nat → Prop
  | v, .inl d => Rp K ω.F H v d
  | v, .inr n => ∃ p, ω.ad[n]? = some p ∧ v = .ref p
theorem ARel.up {K : PySem.W.Frag} {ω ω1 : Wd} {H H1 : Hp} (e : Ext B ω H ω1 H1) : ∀ {v : V} {r : PyData ⊕ Nat}, ARel K ω H v r → ARel K ω1 H1 v r
  | _, .inl d, h => Rp.up (d := d) h e.fr
  | _, .inr n, ⟨p, h, q⟩ => ⟨p, by
      obtain ⟨t, ht⟩ := e.ad
      rw [← ht, List.getElem?_append_left (List.getElem?_eq_some_iff.mp h).1]
      exact h, q⟩
theorem fixM_ok {H : Hp} : ∀ {ms : List Bool} {evs : List EV} {vs : List V} {ω : Wd} {st st' : Sto} {rs : List (PyData ⊕ Nat)}, SR B ω H σ sl st → VRs B ω H vs (evs.map EV.soft) → fixM ms (evs.map EV.soft) st = some (rs, st') →
    ∃ ω', Ext B ω H ω' H ∧ SR B ω' H σ sl st' ∧ Paired (ARel B.K ω' H) vs rs
  | [], [], _, ω, st, st', rs, s, .nil, e => by
    cases e
    exact ⟨ω, .refl, s, .nil⟩
  | [], ev :: evs, _, ω, st, st', rs, s, _, e => by
    simp [fixM] at e
  | true :: ms, [], _, ω, st, st', rs, s, _, e => by
    simp [fixM] at e
  | false :: ms, [], _, ω, st, st', rs, s, _, e => by
    simp [fixM] at e
  | false :: ms, ev :: evs, _, ω, st, st', rs, s, .cons (a := v) (l₁ := vs) h r, e => by
    have e' : fixM (false :: ms) (ev.soft :: evs.map EV.soft) st = some (rs, st') := e
    unfold fixM at e'
    cases h1 : ev.soft.fix st with
    | none => simp [h1] at e'
    | some p =>
      obtain ⟨d, st1⟩ := p
      simp only [h1] at e'
      cases h2 : fixM ms (evs.map EV.soft) st1 with
      | none => simp [h2] at e'
      | some p2 =>
        obtain ⟨rs2, st2⟩ := p2
        simp only [h2, Option.some.injEq, Prod.mk.injEq] at e'
        obtain ⟨rfl, rfl⟩ := e'
        obtain ⟨ω1, x1, s1, r1⟩ := VR.fix s h h1
        obtain ⟨ω2, x2, s2, r2⟩ := fixM_ok s1 (VRs.up x1 r) h2
        exact ⟨ω2, x1.trans x2, s2, .cons (r1.up x2.fr) r2⟩
  | true :: ms, ev :: evs, _, ω, st, st', rs, s, .cons (a := v) (l₁ := vs) h r, e => by
    have e' : fixM (true :: ms) (ev.soft :: evs.map EV.soft) st = some (rs, st') := e
    cases ev with
    | val d => simp [EV.soft, fixM] at e'
    | new o => cases o <;> simp [EV.soft, fixM] at e'
    | lost => simp [EV.soft, fixM] at e'
    | bor n =>
      have h' : VR B ω H v (.bor n) := h
      have e2 : fixM (true :: ms) (.bor n :: evs.map EV.soft) st = some (rs, st') := e'
      unfold fixM at e2
      cases h2 : fixM ms (evs.map EV.soft) st with
      | none => simp [h2] at e2
      | some p2 =>
        obtain ⟨rs2, st2⟩ := p2
        simp only [h2, Option.some.injEq, Prod.mk.injEq] at e2
        obtain ⟨rfl, rfl⟩ := e2
        obtain ⟨ω2, x2, s2, r2⟩ := fixM_ok s r h2
        have a : ARel B.K ω H v (.inr n) := h'
        exact ⟨ω2, x2, s2, .cons (a.up x2) r2⟩
theorem argsM_ok {H : Hp} {ω : Wd} {st : Sto} (s : SR B ω H σ sl st) : ∀ {vs : List V} {rs : List (PyData ⊕ Nat)} {as : List Arg} {ns : List Nat}, Paired (ARel B.K ω H) vs rs → argsM st rs = some (as, ns) →
    ∃ io, ArgsR B.K ω.F H vs as io ∧ Paired (fun n p => ω.ad[n]? = some p ∧ ∃ c, st[n]? = some c ∧ (∀ d, c ≠ .fz d) ∧ ∀ kvs, c ≠ .kd kvs) ns io
  | _, [], as, ns, .nil, e => by
    cases e
    exact ⟨[], .nil, .nil⟩
  | _, .inl d :: rs, as, ns, .cons (a := v) (l₁ := vs) h r, e => by
    unfold argsM at e
    cases h1 : argsM st rs with
    | none => simp [h1] at e
    | some p =>
      obtain ⟨as2, ns2⟩ := p
      simp only [h1, Option.some.injEq, Prod.mk.injEq] at e
      obtain ⟨rfl, rfl⟩ := e
      obtain ⟨io, q1, q2⟩ := argsM_ok s r h1
      exact ⟨io, .val h q1, q2⟩
  | _, .inr n :: rs, as, ns, .cons (a := v) (l₁ := vs) h r, e => by
    obtain ⟨p, hp, rfl⟩ := h
    unfold argsM at e
    cases h1 : argsM st rs with
    | none =>
      rw [h1] at e
      split at e <;> rename_i h2 h3 <;> first | (cases h3) | (cases e)
    | some pr =>
      obtain ⟨as2, ns2⟩ := pr
      obtain ⟨io, q1, q2⟩ := argsM_ok s r h1
      rw [h1] at e
      cases hc : st[n]? with
      | none => rw [hc] at e; cases e
      | some c =>
        rw [hc] at e
        have q := s.cell n c p hc hp
        cases c with
        | fz d => cases e
        | kd kvs => cases e
        | live o =>
          cases e
          exact ⟨p :: io, .io q.1 q.2 q1, .cons ⟨hp, _, hc, (fun d z => nomatch z), (fun d z => nomatch z)⟩ q2⟩
        | io o =>
          cases e
          exact ⟨p :: io, .io q.1 q.2 q1, .cons ⟨hp, _, hc, (fun d z => nomatch z), (fun d z => nomatch z)⟩ q2⟩
theorem putAll_len : ∀ (st : Sto) (ns : List Nat) (os : List MO), (putAll st ns os).length = st.length
  | st, [], os => by unfold putAll; rfl
  | st, n :: ns, [] => by unfold putAll; rfl
  | st, n :: ns, o :: os => by
    unfold putAll
    rw [putAll_len]
    split
    · rw [List.length_set]
    · rfl
theorem putAll_out {m : Nat} : ∀ {st : Sto} {ns : List Nat} {os : List MO}, m ∉ ns → (putAll st ns os)[m]? = st[m]?
  | st, [], os, _ => by unfold putAll; rfl
  | st, n :: ns, [], _ => by unfold putAll; rfl
  | st, n :: ns, o :: os, h => by
    unfold putAll
    rw [putAll_out (fun z => h (List.mem_cons_of_mem _ z))]
    split
    · exact List.getElem?_set_ne fun z => h (by rw [← z]; exact List.mem_cons_self)
    · rfl
/-- behind a call, cell by cell -/
theorem putAll_cells {K : PySem.W.Frag} {F F' : Addr → Prop} {H H' : Hp} {ad : List Addr} : ∀ {ns : List Nat} {io : List Addr} {os : List MO} {st : Sto}, ns.Nodup → Paired (fun n p => ad[n]? = some p ∧ ∃ c, st[n]? = some c ∧ (∀ d, c ≠ .fz d) ∧ ∀ kvs, c ≠ .kd kvs) ns io → IoR K F' H' io os →
    ∀ (n : Nat) (c : Cell) (p : Addr), (putAll st ns os)[n]? = some c → ad[n]? = some p → (n ∉ ns ∧ st[n]? = some c) ∨ ((∃ o, c = .live o ∧ ¬ F' p ∧ MOR K F' H' p o ∧ ∃ o', st[n]? = some (.live o')) ∨ (∃ o, c = .io o ∧ ¬ F' p ∧ MOR K F' H' p o ∧ ∃ o', st[n]? = some (.io o')))
  | [], _, _, st, _, .nil, .nil, n, c, p, h1, h2 => .inl ⟨by simp, h1⟩
  | m :: ns, q :: io, o :: os, st, nd, .cons ⟨g1, cm, g2, g3⟩ r, .cons a b, n, c, p, h1, h2 => by
    have nd' := List.nodup_cons.mp nd
    unfold putAll at h1
    rw [g2] at h1
    dsimp only at h1
    by_cases hn : n = m
    · subst hn
      rw [putAll_out nd'.1, List.getElem?_set_self (List.getElem?_eq_some_iff.mp g2).1] at h1
      cases h1
      rw [g1] at h2
      cases h2
      refine .inr ?_
      cases cm with
      | fz d => exact absurd rfl (g3.1 d)
      | kd kvs => exact absurd rfl (g3.2 kvs)
      | live o' => exact .inl ⟨o, rfl, a.1, a.2, o', g2⟩
      | io o' => exact .inr ⟨o, rfl, a.1, a.2, o', g2⟩
    · have r' : Paired (fun n p => ad[n]? = some p ∧ ∃ c, (st.set m (putC cm o))[n]? = some c ∧ (∀ d, c ≠ .fz d) ∧ ∀ kvs, c ≠ .kd kvs) ns io := by
        have go : ∀ {ns : List Nat} {io : List Addr}, m ∉ ns → Paired (fun n p => ad[n]? = some p ∧ ∃ c, st[n]? = some c ∧ (∀ d, c ≠ .fz d) ∧ ∀ kvs, c ≠ .kd kvs) ns io → Paired (fun n p => ad[n]? = some p ∧ ∃ c, (st.set m (putC cm o))[n]? = some c ∧ (∀ d, c ≠ .fz d) ∧ ∀ kvs, c ≠ .kd kvs) ns io := by
          intro ns io hm hr
          induction hr with
          | nil => exact .nil
          | cons h t ih =>
            obtain ⟨k1, c1, k2, k3⟩ := h
            refine .cons ⟨k1, c1, ?_, k3⟩ (ih fun z => hm (List.mem_cons_of_mem _ z))
            rw [List.getElem?_set_ne fun z => hm (by rw [z]; exact List.mem_cons_self)]
            exact k2
        exact go nd'.1 r
      have hs : (st.set m (putC cm o))[n]? = st[n]? := List.getElem?_set_ne fun z => hn z.symm
      rcases putAll_cells (F := F) (H := H) nd'.2 r' b n c p h1 h2 with ⟨z1, z2⟩ | ⟨o1, z1, z2, z3, o2, z4⟩ | ⟨o1, z1, z2, z3, o2, z4⟩
      · exact .inl ⟨fun z => (List.mem_cons.mp z).elim hn z1, by rw [← hs]; exact z2⟩
      · exact .inr (.inl ⟨o1, z1, z2, z3, o2, by rw [← hs]; exact z4⟩)
      · exact .inr (.inr ⟨o1, z1, z2, z3, o2, by rw [← hs]; exact z4⟩)
theorem paired_mem {α β : Type} {R : α → β → Prop} : ∀ {as : List α} {bs : List β}, Paired R as bs → ∀ b ∈ bs, ∃ a ∈ as, R a b
  | _, _, .nil, b, h => by cases h
  | _, _, .cons r t, b, h => by
    rcases List.mem_cons.mp h with e | h
    · subst e; exact ⟨_, List.mem_cons_self, r⟩
    · obtain ⟨a, h1, h2⟩ := paired_mem t b h
      exact ⟨a, List.mem_cons_of_mem _ h1, h2⟩
theorem paired_len {α β : Type} {R : α → β → Prop} : ∀ {as : List α} {bs : List β}, Paired R as bs → as.length = bs.length
  | _, _, .nil => rfl
  | _, _, .cons r t => congrArg (· + 1) (paired_len t)
theorem SR.called {ω : Wd} {H H' : Hp} {F' : Addr → Prop} {st : Sto} {ns : List Nat} {io : List Addr} {os : List MO} (s : SR B ω H σ sl st) (nd : ns.Nodup) (pn : Paired (fun n p => ω.ad[n]? = some p ∧ ∃ c, st[n]? = some c ∧ (∀ d, c ≠ .fz d) ∧ ∀ kvs, c ≠ .kd kvs) ns io) (po : Post B.K ω.F H io F' H' os) :
    SR B ⟨F', ω.ad⟩ H' σ sl (putAll st ns os) ∧ Ext B ω H ⟨F', ω.ad⟩ H' := by
  have ioad : ∀ p ∈ io, p ∈ ω.ad := fun p hp => by
    obtain ⟨n, _, h, _⟩ := paired_mem pn p hp
    exact List.mem_of_getElem? h
  have kp : ∀ p, H p ≠ none → p ∉ io → H' p = H p := fun p h hi => by
    cases e : H p with
    | none => exact absurd e h
    | some o => exact po.keep p o e hi
  have fresh0 : ∀ a, H a = none → B.H0 a = none := fun a h => by
    cases e : B.H0 a with
    | none => rfl
    | some o =>
      by_cases hi : a ∈ B.io
      · exact absurd h (s.there a (s.iop.subset hi))
      · rw [s.keep a o e hi] at h; cases h
  have key := putAll_cells (K := B.K) (F := ω.F) (F' := F') (H := H) (H' := H') (ad := ω.ad) nd pn po.out
  have prk : ∀ p ∈ B.pr, H' p = H p := fun p hp => kp p (s.prH p hp) fun z => s.prA p hp (ioad p z)
  refine ⟨⟨s.len, po.dom, fun a o h hi => ?_, fun a h => ?_, fun a h => (po.fr a (s.oldF a h)).1, by rw [putAll_len]; exact s.adl, s.nd, s.iop, s.adn, fun n c hn h => ?_, fun n o h => ?_, fun p hp => ?_, fun p hp h => ?_, s.prA, fun p hp => by rw [prk p hp]; exact s.prH p hp, fun i t h => (s.slot i t h).up po.fr (List.prefix_refl _), fun n c p h1 h2 => ?_⟩, ⟨po.fr, List.prefix_refl _, prk⟩⟩
  · have e := s.keep a o h hi
    refine po.keep a o e fun z => ?_
    rcases s.adn a (ioad a z) with q | q
    · exact hi q
    · rw [h] at q; cases q
  · rcases po.new a h with q | q
    · exact s.newF a q
    · exact .inr (fresh0 a q)
  · obtain ⟨p, hp⟩ : ∃ p, ω.ad[n]? = some p := by
      have : n < ω.ad.length := Nat.lt_of_lt_of_le hn s.iop.length_le
      exact ⟨_, List.getElem?_eq_getElem this⟩
    rcases key n c p h hp with ⟨_, z⟩ | ⟨o, z, _, _, o', z4⟩ | ⟨o, z, _⟩
    · exact s.ioc n c hn z
    · obtain ⟨o2, z5⟩ := s.ioc n _ hn z4
      cases z5
    · exact ⟨o, z⟩
  · obtain ⟨p, hp⟩ : ∃ p, ω.ad[n]? = some p := by
      have h1 := (List.getElem?_eq_some_iff.mp h).1
      rw [putAll_len, ← s.adl] at h1
      exact ⟨_, List.getElem?_eq_getElem h1⟩
    rcases key n _ p h hp with ⟨_, z⟩ | ⟨o, z, _⟩ | ⟨o, z, _, _, o', z4⟩
    · exact s.ioc2 n o z
    · cases z
    · exact s.ioc2 n o' z4
  · by_cases hi : p ∈ io
    · obtain ⟨o, _, h⟩ : ∃ o, True ∧ MOR B.K F' H' p o := by
        have go : ∀ {io : List Addr} {os : List MO}, IoR B.K F' H' io os → p ∈ io → ∃ o, True ∧ MOR B.K F' H' p o := by
          intro io os h hm
          induction h with
          | nil => cases hm
          | cons a t ih =>
            rcases List.mem_cons.mp hm with e | hm
            · subst e; exact ⟨_, trivial, a.2⟩
            · exact ih hm
        exact go po.out hi
      exact h.some
    · rw [kp p (s.there p hp) hi]; exact s.there p hp
  · rcases po.new p h with q | q
    · exact s.prF p hp q
    · exact s.prH p hp q
  · rcases key n c p h1 h2 with ⟨z1, z2⟩ | ⟨o, rfl, z2, z3, _⟩ | ⟨o, rfl, z2, z3, _⟩
    · refine (s.cell n c p z2 h2).up po.fr fun h3 h4 => ⟨kp p h3 fun z => ?_, fun z => (po.new p z).elim h4 h3⟩
      obtain ⟨m, hm, q1, _⟩ := paired_mem pn p z
      have := (List.getElem?_inj (List.getElem?_eq_some_iff.mp q1).1 s.nd).mp (q1.trans h2.symm)
      subst this
      exact z1 hm
    · exact ⟨z2, z3⟩
    · exact ⟨z2, z3⟩
end
section
variable {X : Cx} {ct : Gx} {W : WX}
theorem call_read {B : Bs} (hB : B.K = X.K) (hc : B.ct = ct) {D : FD} {ms : List Bool} {fa : FA} {n : Nat} (hn : ms.length = n) (hs : SoftA fa) {sl : Sls} {st : Sto} {σ : L2.St} {H : Hp} {Q : VK} {ω : Wd} {t : TA} (s : SR B ω H σ sl st)
    (ht : ∀ Q', OutA B W σ ω H sl (fa sl st) Q' → t σ H Q') (q : OutE B W σ ω H sl (eCall D ms fa sl st) Q) : t σ H fun vs H1 => spOf X.K ct n D vs H1 Q (fun cls d H' => W cls d σ H') := by
  refine ht _ ?_
  unfold eCall at q
  cases hf : fa sl st with
  | fail => rw [hf] at q; exact q
  | exc x st1 => rw [hf] at q; exact q
  | ok evs st1 =>
    rw [hf] at q
    dsimp only at q
    intro vs ω1 H1 x1 s1 hv
    have hm := hs _ _ _ _ hf
    cases h1 : fixM ms evs st1 with
    | none => rw [h1] at q; exact q.elim
    | some p1 =>
      obtain ⟨rs, st2⟩ := p1
      rw [h1] at q
      dsimp only at q
      obtain ⟨ω2, x2, s2, ar⟩ := fixM_ok (ms := ms) (evs := evs) (ω := ω1) s1 (by rw [hm]; exact hv) (by rw [hm]; exact h1)
      cases h2 : argsM st2 rs with
      | none => rw [h2] at q; exact q.elim
      | some p2 =>
        obtain ⟨as, ns⟩ := p2
        rw [h2] at q
        dsimp only at q
        by_cases nd : ns.Nodup
        · rw [if_pos nd] at q
          obtain ⟨io, r1, r2⟩ := argsM_ok s2 ar h2
          have hlen : vs.length = n := by
            have go : ∀ {ms : List Bool} {evs : List EV} {st st' : Sto} {rs : List (PyData ⊕ Nat)}, fixM ms evs st = some (rs, st') → ms.length = rs.length := by
              intro ms
              induction ms with
              | nil =>
                intro evs st st' rs e
                cases evs with
                | nil => cases e; rfl
                | cons _ _ => simp [fixM] at e
              | cons m ms ih =>
                intro evs st st' rs e
                cases evs with
                | nil => cases m <;> simp [fixM] at e
                | cons ev evs =>
                  cases m with
                  | false =>
                    unfold fixM at e
                    split at e
                    · cases e
                    · split at e
                      · cases e
                      · rename_i h
                        cases e
                        exact congrArg (· + 1) (ih h)
                  | true =>
                    cases ev with
                    | val _ => simp [fixM] at e
                    | new _ => simp [fixM] at e
                    | lost => simp [fixM] at e
                    | bor k =>
                      unfold fixM at e
                      split at e
                      · cases e
                      · rename_i h
                        cases e
                        exact congrArg (· + 1) (ih h)
            rw [paired_len ar, ← go h1, hn]
          have ioN : io.Nodup := by
            have go : ∀ {ns : List Nat} {io : List Addr}, ns.Nodup → Paired (fun n p => ω2.ad[n]? = some p ∧ ∃ c, st2[n]? = some c ∧ (∀ d, c ≠ .fz d) ∧ ∀ kvs, c ≠ .kd kvs) ns io → io.Nodup := by
              intro ns io hnd h
              induction h with
              | nil => exact List.nodup_nil
              | cons a t ih =>
                have hnd' := List.nodup_cons.mp hnd
                refine List.nodup_cons.mpr ⟨fun hm => ?_, ih hnd'.2⟩
                obtain ⟨m, hm1, hm2, _⟩ := paired_mem t _ hm
                have := (List.getElem?_inj (List.getElem?_eq_some_iff.mp hm2).1 s2.nd).mp (hm2.trans a.1.symm)
                subst this
                exact hnd'.1 hm1
            exact go nd r2
          refine ⟨ω2.F, as, io, hlen, by rw [← hB]; exact r1, s2.dom, ioN, ?_⟩
          have x12 := x1.trans x2
          cases hD : D as with
          | fail => rw [hD] at q; exact q
          | rt d os =>
            rw [hD] at q
            dsimp only at q
            intro v F' H' po rv
            by_cases hl : os.length = ns.length
            · rw [if_pos hl] at q
              rw [← hB] at po rv
              obtain ⟨s3, x3⟩ := s2.called nd r2 po
              exact q v _ H' (x12.trans x3) s3 rv
            · rw [if_neg hl] at q; exact q.elim
          | rn o os =>
            rw [hD] at q
            dsimp only at q
            intro p F' H' po hn hf mo
            by_cases hl : os.length = ns.length
            · rw [if_pos hl] at q
              rw [← hB] at po mo
              obtain ⟨s3, x3⟩ := s2.called nd r2 po
              obtain ⟨f1, f2, _⟩ := s2.fresh hn
              exact q (.ref p) _ H' (x12.trans x3) s3 ⟨p, rfl, f1, f2, hf, mo⟩
            · rw [if_neg hl] at q; exact q.elim
          | exc x os =>
            rw [hD] at q
            dsimp only at q
            intro cls dd F' H' C po h1 h2 h3 h4
            by_cases hl : os.length = ns.length
            · rw [if_pos hl] at q
              rw [← hB] at po
              obtain ⟨s3, x3⟩ := s2.called nd r2 po
              exact q cls dd _ H' (x12.trans x3) s3 ⟨C, by rw [hc]; exact h1, h2, h3, h4⟩
            · rw [if_neg hl] at q; exact q.elim
        · rw [if_neg nd] at q; exact q.elim
/-- f(a, ..) of a def of one's own, by its function D; ms: which arguments are things that it may change -/
theorem se_call {k n : Nat} {f : Addr} {fd : FuncData} {ps : List Str} {D : FD} {x : Str} {p pos : Pos} {e : Expr} {es : List Expr} {fa : FA} (ms : List Bool) (F : FnG X.prog X.w X.K X.mg X.base (L2.CX X.prog X.w) k f fd ps (spOf X.K ct n D)) (hn : ms.length = n) (hr : Room k X.A) (quiet : X.A.guards = some []) (hg : Gl X x) (hm : X.mg x = some (.ref f))
    (hk : PySem.W.keepIn X.K (.ref f) = true) (hb : Binds X.K fd ps []) (tk : Takes X W) (ha : SA X ct W (e :: es) fa) (hs : SoftA fa) (hdb : (x == ("__debug__" : Str)) = false := by decide)
    (he : starEach (e :: es) X.env = (false, eval e X.env) :: starEach es X.env := by rfl) (hpl : (backTo pos (starEach es X.env)).any (·.1) = false := by rfl) : SE X ct W (.Call (.Name x p) (e :: es) [] pos) (eCall D ms fa) := by
  intro B hB hc sl st
  refine ⟨fun pins s σ H Q I ⟨ω, sr, q⟩ => ?_⟩
  refine wpAny_Call_Name_kw (ld_glob I hg hm ?_ hdb)
  have read := call_read (t := fun σ H Q => ∃ ω, SR B ω H σ sl st ∧ OutA B W σ ω H sl (fa sl st) Q) hB hc hn hs sr (fun Q' h => ⟨ω, sr, h⟩) q
  refine PySem.W.callWith_K (h₀ := X.base) I.ok.mod.kin hk (thn ((ha B hB hc sl st).run pos pins s σ H _ I read) fun us s1 ⟨vs, H1, I1, r, q1⟩ => ⟨I1.kIn, ?_⟩) he hpl
  have bound := hb s1 us I1.kIn (by rw [List.append_nil, ← r.length]; exact F.len _ _ _ _ q1)
  rw [List.append_nil] at bound
  refine wpAny_call (codeAny_mono (F.run X.A X.stack s1 H1 ⟨us, []⟩ us vs Q _ hr quiet I1.env0 bound r q1) fun res s2 h2 => ?_)
  cases res with
  | error e => exact passAt tk σ pins H1 s1 e s2 I1 h2
  | ok fl =>
    cases fl with
    | ret u => exact I1.after h2
    | next => exact False.elim h2
    | brk => exact False.elim h2
    | cont => exact False.elim h2
end
end Px
namespace Px
open PySem PySem.Spec PyProof.Rows L2

section
variable {X : Cx} {ct : Gx} {W : WX}
/-! ### list comprehensions -/
def wipeS (sl : Sls) : List Nat → Sls
  | [] => sl
  | v :: vs => (wipeS sl vs).set v .non
theorem SR.unset {B : Bs} {ω : Wd} {H : Hp} {σ : L2.St} {sl : Sls} {st : Sto} (s : SR B ω H σ sl st) (i : Nat) : SR B ω H (σ.set i none) (sl.set i .non) st where
  len := by rw [List.length_set, List.length_set]; exact s.len
  dom := s.dom
  keep := s.keep
  newF := s.newF
  oldF := s.oldF
  adl := s.adl
  nd := s.nd
  iop := s.iop
  adn := s.adn
  ioc := s.ioc
  ioc2 := s.ioc2
  there := s.there
  prF := s.prF
  prA := s.prA
  prH := s.prH
  slot := fun j u h => by
    by_cases e : i = j
    · subst e
      have hl : i < sl.length := by
        have := (List.getElem?_eq_some_iff.mp h).1
        rw [List.length_set] at this
        exact this
      rw [List.getElem?_set_self hl] at h
      cases h
      exact trivial
    · rw [List.getElem?_set_ne e] at h
      rw [List.getElem?_set_ne e]
      exact s.slot j u h
  cell := s.cell
theorem SR.wipe {B : Bs} {ω : Wd} {H : Hp} {σ : L2.St} {sl : Sls} {st : Sto} (s : SR B ω H σ sl st) : ∀ vs : List Nat, SR B ω H (L2.wipe σ vs) (wipeS sl vs) st
  | [] => s
  | v :: vs => (s.wipe vs).unset v
/-- other slots, that are known to stand -/
theorem SR.slots {B : Bs} {ω ω' : Wd} {H H' : Hp} {σ σ' : L2.St} {sl sl' : Sls} {st st' : Sto} (s : SR B ω H σ sl st) (e : Ext B ω H ω' H') (t : SR B ω' H' σ' sl' st') : SR B ω' H' σ sl st' where
  len := s.len
  dom := t.dom
  keep := t.keep
  newF := t.newF
  oldF := t.oldF
  adl := t.adl
  nd := t.nd
  iop := t.iop
  adn := t.adn
  ioc := t.ioc
  ioc2 := t.ioc2
  there := t.there
  prF := t.prF
  prA := t.prA
  prH := t.prH
  slot := fun i u h => (s.slot i u h).up e.fr e.ad
  cell := t.cell
def Bs.guard (B : Bs) (p : Addr) : Bs := { B with pr := p :: B.pr }
theorem SR.guard {B : Bs} {ω : Wd} {H : Hp} {σ : L2.St} {sl : Sls} {st : Sto} {p : Addr} (s : SR B ω H σ sl st) (h1 : ¬ ω.F p) (h2 : p ∉ ω.ad) (h3 : H p ≠ none) : SR (B.guard p) ω H σ sl st :=
  ⟨s.len, s.dom, s.keep, s.newF, s.oldF, s.adl, s.nd, s.iop, s.adn, s.ioc, s.ioc2, s.there, fun q hq => (List.mem_cons.mp hq).elim (fun e => by rw [e]; exact h1) (s.prF q), fun q hq => (List.mem_cons.mp hq).elim (fun e => by rw [e]; exact h2) (s.prA q),
    fun q hq => (List.mem_cons.mp hq).elim (fun e => by rw [e]; exact h3) (s.prH q), s.slot, s.cell⟩
theorem SR.unguard {B : Bs} {ω : Wd} {H : Hp} {σ : L2.St} {sl : Sls} {st : Sto} {p : Addr} (s : SR (B.guard p) ω H σ sl st) : SR B ω H σ sl st ∧ ¬ ω.F p ∧ p ∉ ω.ad ∧ H p ≠ none :=
  ⟨⟨s.len, s.dom, s.keep, s.newF, s.oldF, s.adl, s.nd, s.iop, s.adn, s.ioc, s.ioc2, s.there, fun q hq => s.prF q (List.mem_cons_of_mem _ hq), fun q hq => s.prA q (List.mem_cons_of_mem _ hq), fun q hq => s.prH q (List.mem_cons_of_mem _ hq), s.slot, s.cell⟩,
    s.prF p List.mem_cons_self, s.prA p List.mem_cons_self, s.prH p List.mem_cons_self⟩
theorem Ext.unguard {B : Bs} {ω ω' : Wd} {H H' : Hp} {p : Addr} (e : Ext (B.guard p) ω H ω' H') : Ext B ω H ω' H' ∧ H' p = H p := ⟨⟨e.fr, e.ad, fun q hq => e.pr q (List.mem_cons_of_mem _ hq)⟩, e.pr p List.mem_cons_self⟩
/-- the thing under way is written: nothing else knows it -/
theorem SR.under {B : Bs} {ω : Wd} {H : Hp} {σ : L2.St} {sl : Sls} {st : Sto} {p : Addr} {o : HO} (s : SR B ω H σ sl st) (h1 : ¬ ω.F p) (h2 : p ∉ ω.ad) (h3 : B.H0 p = none) (h4 : p ∉ B.pr) : SR B ω (upd H p o) σ sl st ∧ Ext B ω H ω (upd H p o) := by
  have fr : Fr ω.F H ω.F (upd H p o) := fun a h => ⟨h, upd_ne fun e => h1 (e ▸ h)⟩
  have kp : ∀ q, q ≠ p → upd H p o q = H q := fun q h => upd_ne h
  refine ⟨⟨s.len, fun a h => upd_some (s.dom a h), fun a u h hi => ?_, s.newF, s.oldF, s.adl, s.nd, s.iop, s.adn, s.ioc, s.ioc2, fun q hq => upd_some (s.there q hq), s.prF, s.prA, fun q hq => upd_some (s.prH q hq), fun i t h => (s.slot i t h).up fr (List.prefix_refl _),
    fun n c q g1 g2 => (s.cell n c q g1 g2).up fr fun _ h => ⟨kp q fun e => h2 (by rw [← e]; exact List.mem_of_getElem? g2), h⟩⟩, ⟨fr, List.prefix_refl _, fun q hq => kp q fun e => h4 (e ▸ hq)⟩⟩
  rw [kp a fun e => by rw [e, h3] at h; cases h]
  exact s.keep a u h hi
def lcGo (h : FG) (t : FT) (f : FE) (sl0 : Sls) : List PyData → Sto → Option (List PyData × Sto)
  | [], st => some ([], st)
  | d :: ds, st => match h d sl0 with
    | none => none
    | some sl1 => match t sl1 st with
      | .ok false st1 => lcGo h t f sl0 ds st1
      | .ok true st1 => match f sl1 st1 with
        | .ok ev st2 => match ev.fix st2 with
          | none => none
          | some (e, st3) => match lcGo h t f sl0 ds st3 with
            | none => none
            | some (es, st4) => some (e :: es, st4)
        | _ => none
      | _ => none
def eLc (vs : List Nat) (fi : FI) (h : FG) (t : FT) (f : FE) : FE := fun sl st => match fi sl st with
  | .fail => .fail
  | .exc x st1 => .exc x st1
  | .ok ds st1 => match lcGo h t f (wipeS sl vs) ds st1 with
    | none => .fail
    | some (es, st2) => if es.length ≤ Lim then .ok (.new (.lst es)) st2 else .fail
def tTrue : FT := fun _ st => .ok true st
/-- the tests of a comprehension -/
def SPT (X : Cx) (ct : Gx) (W : WX) (ifs : List Expr) (f : FT) : Prop := ∀ (B : Bs), B.K = X.K → B.ct = ct → ∀ sl st, PTs X ifs (fun σ H Q => ∃ ω, SR B ω H σ sl st ∧ OutT B W σ ω H sl (f sl st) Q)
theorem pts_imp {ifs : List Expr} {t t' : TT} (h : PTs X ifs t) (i : ∀ σ H Q, t' σ H Q → t σ H Q) : PTs X ifs t' := ⟨fun pins s σ H Q I q => h.run pins s σ H Q I (i _ _ _ q)⟩
theorem spt_nil : SPT X ct W [] tTrue := fun B hB hc sl st => pts_imp pts_nil fun σ H Q ⟨ω, s, q⟩ => q ω H .refl s
theorem spt_one {c : Expr} {t : FT} (h : ST X ct W c t) : SPT X ct W [c] t := fun B hB hc sl st => pts_one (h B hB hc sl st)
abbrev W0 : WX := fun _ _ _ _ => False
theorem SPT.all {ifs : List Expr} {t : FT} (h : SPT X ct W ifs t) {B : Bs} (hB : B.K = X.K) (hc : B.ct = ct) : PTs X ifs (fun σ H Q => ∃ sl st ω, SR B ω H σ sl st ∧ OutT B W σ ω H sl (t sl st) Q) :=
  ⟨fun pins s σ H Q I ⟨sl, st, q⟩ => (h B hB hc sl st).run pins s σ H Q I q⟩
theorem SE.all {e : Expr} {f : FE} (h : SE X ct W e f) {B : Bs} (hB : B.K = X.K) (hc : B.ct = ct) : PE X e (fun σ H Q => ∃ sl st ω, SR B ω H σ sl st ∧ OutE B W σ ω H sl (f sl st) Q) :=
  ⟨fun pins s σ H Q I ⟨sl, st, q⟩ => (h B hB hc sl st).run pins s σ H Q I q⟩
/-- over every list under way -/
theorem SG.allG {tg : Expr} {h : FG} {ts : List Nat} (g : SG X ts tg h) {B : Bs} (hB : B.K = X.K) : PG X tg (fun v σ H Q => ∃ p sl sl' st d ω, h d sl = some sl' ∧ SR (B.guard p) ω H σ sl st ∧ Rp B.K ω.F H v d ∧ ∀ σ', Ts ts σ σ' → SR (B.guard p) ω H σ' sl' st → Q σ' H) :=
  ⟨fun pins s σ H v u Q I r ⟨p, sl, sl', st, d, ω, e, q⟩ => (g (B.guard p) hB sl sl' st d e).run pins s σ H v u Q I r ⟨ω, q⟩⟩
theorem SPT.allG {ifs : List Expr} {t : FT} (h : SPT X ct W ifs t) {B : Bs} (hB : B.K = X.K) (hc : B.ct = ct) : PTs X ifs (fun σ H Q => ∃ p sl st ω, SR (B.guard p) ω H σ sl st ∧ OutT (B.guard p) W σ ω H sl (t sl st) Q) :=
  ⟨fun pins s σ H Q I ⟨p, sl, st, q⟩ => (h (B.guard p) hB hc sl st).run pins s σ H Q I q⟩
theorem SE.allG {e : Expr} {f : FE} (h : SE X ct W e f) {B : Bs} (hB : B.K = X.K) (hc : B.ct = ct) : PE X e (fun σ H Q => ∃ p sl st ω, SR (B.guard p) ω H σ sl st ∧ OutE (B.guard p) W σ ω H sl (f sl st) Q) :=
  ⟨fun pins s σ H Q I ⟨p, sl, st, q⟩ => (h (B.guard p) hB hc sl st).run pins s σ H Q I q⟩
/-- the reading of a list comprehension -/
theorem lc_read {B : Bs} (hB : B.K = X.K) {fi : FI} {h : FG} {t : FT} {f : FE} {vs ts : List Nat} (hts : ∀ i ∈ ts, i ∈ vs) {sl : Sls} {st : Sto} {σ : L2.St} {H : Hp} {Q : VK} {wi : TI}
    (hwi : ∀ σ H R, (∃ ω, SR B ω H σ sl st ∧ OutI B W X σ ω H sl (fi sl st) R) → wi σ H R) (q : ∃ ω, SR B ω H σ sl st ∧ OutE B W σ ω H sl (eLc vs fi h t f sl st) Q) :
    tLc wi (fun v σ H Q => ∃ p sl sl' st d ω, h d sl = some sl' ∧ SR (B.guard p) ω H σ sl st ∧ Rp B.K ω.F H v d ∧ ∀ σ', Ts ts σ σ' → SR (B.guard p) ω H σ' sl' st → Q σ' H) (fun σ H Q => ∃ p sl st ω, SR (B.guard p) ω H σ sl st ∧ OutT (B.guard p) W0 σ ω H sl (t sl st) Q)
      (fun σ H Q => ∃ p sl st ω, SR (B.guard p) ω H σ sl st ∧ OutE (B.guard p) W0 σ ω H sl (f sl st) Q) vs σ H Q := by
  obtain ⟨ω, s, q⟩ := q
  refine hwi σ H _ ⟨ω, s, ?_⟩
  unfold eLc at q
  cases hf : fi sl st with
  | fail => rw [hf] at q; exact q
  | exc x st1 => rw [hf] at q; exact q
  | ok ds st1 =>
    rw [hf] at q
    dsimp only at q
    intro J ω1 H1 x1 s1 wk D hD
    cases hl : lcGo h t f (wipeS sl vs) ds st1 with
    | none => rw [hl] at q; exact q.elim
    | some p =>
      obtain ⟨es, st2⟩ := p
      rw [hl] at q
      dsimp only at q
      by_cases hz : es.length ≤ Lim
      · rw [if_pos hz] at q
        obtain ⟨d1, d2, d3⟩ := s1.fresh hD
        -- W: what is made, what is to come
        let Wv : Nat → Nat → Hp → Prop := fun i m H' => i + m = ds.length ∧ ∃ ω' st' acc acs es', SR (B.guard D) ω' H' (L2.wipe σ vs) (wipeS sl vs) st' ∧ Ext B ω1 H1 ω' H' ∧ H' D = some (.lst acc) ∧ RpA B.K ω'.F H' acc acs ∧
          lcGo h t f (wipeS sl vs) (ds.drop i) st' = some (es', st2) ∧ acs ++ es' = es
        have start : Wv 0 ds.length (upd H1 D (.lst [])) := by
          obtain ⟨s2, e2⟩ := s1.under (o := .lst []) d3 d1 d2.1 d2.2
          exact ⟨by omega, ω1, st1, [], [], es, (s2.wipe vs).guard d3 d1 (by rw [upd_same]; intro z; cases z), e2, upd_same, .nil, by rw [List.drop_zero]; exact hl, rfl⟩
        refine ⟨Wv, ⟨ds.length, start⟩, ?_⟩
        rintro i m H' ⟨em, ω', st', acc, acs, es', s', e', hH, ra, hgo, hes⟩
        obtain ⟨s0, f0, a0, n0⟩ := s'.unguard
        by_cases hi : i < ds.length
        · refine .inr ⟨wk.go _ _ i e'.fr hi, fun H2 => ∃ m', m' < m ∧ Wv (i + 1) m' H2, fun H2 hN => hN, fun x H2 hy => ?_⟩
          have hd : ds[i]? = some ds[i] := List.getElem?_eq_getElem hi
          rw [List.drop_eq_getElem_cons hi] at hgo
          unfold lcGo at hgo
          obtain ⟨F2, px, rx⟩ := wk.yld _ _ i x H2 _ e'.fr s'.dom hd hy
          cases hh : h ds[i] (wipeS sl vs) with
          | none => rw [hh] at hgo; cases hgo
          | some sl2 =>
            rw [hh] at hgo
            dsimp only at hgo
            have s2 := s'.pure px
            have e2 : Ext (B.guard D) ω' H' ⟨F2, ω'.ad⟩ H2 := s'.px px
            refine ⟨D, wipeS sl vs, sl2, st', ds[i], ⟨F2, ω'.ad⟩, hh, s2, by rw [hB]; exact rx, fun σ2 tsr s3 => ⟨?_, ?_⟩⟩
            · have w1 := tsr vs hts
              rw [w1]
              have go : ∀ vs : List Nat, ∀ ws : List Nat, (∀ v ∈ vs, v ∈ ws) → L2.wipe (L2.wipe σ ws) vs = L2.wipe σ ws := by
                intro us
                induction us with
                | nil => intro ws _; rfl
                | cons u us ih =>
                  intro ws hw
                  show (L2.wipe (L2.wipe σ ws) us).set u none = L2.wipe σ ws
                  rw [ih ws fun v hv => hw v (List.mem_cons_of_mem _ hv)]
                  have hu := hw u List.mem_cons_self
                  clear ih hw
                  induction ws with
                  | nil => cases hu
                  | cons w ws ih2 =>
                    show ((L2.wipe σ ws).set w none).set u none = (L2.wipe σ ws).set w none
                    by_cases he : u = w
                    · subst he; rw [List.set_set]
                    · rw [List.set_comm _ _ (fun z => he z.symm), ih2 ((List.mem_cons.mp hu).resolve_left he)]
              exact go vs vs fun _ h => h
            · refine ⟨D, sl2, st', ⟨F2, ω'.ad⟩, s3, ?_⟩
              cases ht : t sl2 st' with
              | fail => rw [ht] at hgo; cases hgo
              | exc y st3 => rw [ht] at hgo; cases hgo
              | ok k st3 =>
                rw [ht] at hgo
                intro ω3 H3 e3 s4
                have e23 := e2.trans e3
                obtain ⟨e23', hD3⟩ := e23.unguard
                have wiped : SR (B.guard D) ω3 H3 (L2.wipe σ vs) (wipeS sl vs) st3 := SR.slots s' e23 s4
                cases k with
                | false =>
                  rw [if_neg Bool.false_ne_true]
                  exact ⟨m - 1, by omega, by omega, ω3, st3, acc, acs, es', wiped, e'.trans e23', hD3.trans hH, ra.up e23.fr, hgo, hes⟩
                | true =>
                  rw [if_pos rfl]
                  refine ⟨D, sl2, st3, ω3, s4, ?_⟩
                  dsimp only at hgo
                  cases hv : f sl2 st3 with
                  | fail => rw [hv] at hgo; cases hgo
                  | exc y st4 => rw [hv] at hgo; cases hgo
                  | ok ev st4 =>
                    rw [hv] at hgo
                    dsimp only at hgo
                    cases hx : ev.fix st4 with
                    | none => rw [hx] at hgo; cases hgo
                    | some pe =>
                      obtain ⟨e1, st5⟩ := pe
                      rw [hx] at hgo
                      dsimp only at hgo
                      cases hg2 : lcGo h t f (wipeS sl vs) (ds.drop (i + 1)) st5 with
                      | none => rw [hg2] at hgo; cases hgo
                      | some pr =>
                        obtain ⟨es2, st6⟩ := pr
                        rw [hg2] at hgo
                        cases hgo
                        intro y ω4 H4 e4 s5 hy4
                        obtain ⟨ω5, e5, s6, r6⟩ := VR.fix s5 hy4 hx
                        have e25 := (e23.trans e4).trans e5
                        obtain ⟨e25', hD5⟩ := e25.unguard
                        have ra5 := ra.up e25.fr
                        obtain ⟨s7, f7, a7, n7⟩ := s6.unguard
                        have wp : SR B ω5 H4 (L2.wipe σ vs) (wipeS sl vs) st5 := SR.slots s0 e25' s7
                        have acl : acc.length < sizeLine := by
                          have h1 := ra.length
                          have h2 : acs.length < es.length := by
                            rw [← hes]
                            simp
                          have := lim_line
                          omega
                        refine ⟨acc, hD5.trans hH, acl, m - 1, by omega, by omega, ω5, st5, acc ++ [y], acs ++ [e1], es2, ?_, ?_, upd_same, ?_, hg2, by rw [← hes]; simp⟩
                        · exact (wp.under f7 a7 d2.1 d2.2).1.guard f7 a7 (by rw [upd_same]; intro z; cases z)
                        · exact (e'.trans e25').trans (wp.under f7 a7 d2.1 d2.2).2
                        · exact (ra5.append (.cons r6 .nil)).up (wp.under (o := .lst (acc ++ [y])) f7 a7 d2.1 d2.2).2.fr
        · have hi' : i = ds.length := by omega
          subst hi'
          refine .inl ⟨wk.stop _ _ e'.fr, ?_⟩
          rw [List.drop_length] at hgo
          unfold lcGo at hgo
          cases hgo
          rw [List.append_nil] at hes
          subst hes
          exact q _ ω' H' (x1.trans e') (SR.slots s (x1.trans e') s0) ⟨D, rfl, a0, ⟨d2.1, d2.2⟩, f0, acc, hH, ra⟩
      · rw [if_neg hz] at q; exact q.elim
theorem se_lc {elt tg iter : Expr} {ifs : List Expr} {scope : Scope} (own : List (Str × Nat)) {pos : Pos} {fi : FI} {h : FG} {t : FT} {f : FE} {ts : List Nat} (hc : X.calm = true) (hN : X.N.Nodup) (hi : SI X ct W tg iter fi) (ok : BlkOk X.N X.env.scope scope own) (hts : ∀ i ∈ ts, i ∈ own.map (·.2))
    (hg : ∀ (s : Shared) (H : Hp) (C : Addr) (cl : List (Str × Addr)) (fp : List Addr), SG (X.blk s H scope (compEnvC scope cl C X.env) fp) ts tg h) (ht : ∀ (s : Shared) (H : Hp) (C : Addr) (cl : List (Str × Addr)) (fp : List Addr), SPT (X.blk s H scope (compEnvC scope cl C X.env) fp) ct W0 ifs t)
    (he : ∀ (s : Shared) (H : Hp) (C : Addr) (cl : List (Str × Addr)) (fp : List Addr), SE (X.blk s H scope (compEnvC scope cl C X.env) fp) ct W0 elt f) (hs : ∀ x, foldedSetIterable iter X.env x = pure x := by intro _; rfl) : SE X ct W (.ListComp elt [⟨tg, iter, ifs, 0⟩] scope pos) (eLc (own.map (·.2)) fi h t f) := by
  intro B hB hb sl st
  refine pe_imp (pe_lc hc hN (hi B hB hb sl st) ok (fun s H C cl fp => (hg s H C cl fp).allG hB) (fun s H C cl fp => (ht s H C cl fp).allG hB hb) (fun s H C cl fp => (he s H C cl fp).allG hB hb) hs) fun σ H Q q => ?_
  exact lc_read hB hts (fun _ _ _ z => z) q
end
end Px
namespace Px
open PySem PySem.Spec PyProof.Rows L2

section
variable {X : Cx} {ct : Gx} {W : WX}
/-- a built-in function's call, by what it asks of data -/
def CallD (X : Cx) (f : Value) (g : List PyData → Option OR) : Prop := ∃ r, CallR X f r ∧ ∀ F H xs ds o Q, (∀ a, F a → H a ≠ none) → Bps X.K F H xs ds → g ds = some o → Give X.K F H Q o → r xs H Q
theorem se_fun {id : String} {x : Str} {p pos : Pos} {e : Expr} {es : List Expr} {fa : FA} {g : List PyData → Option OR} (c : CallD X (.builtin id) g) (hg : Gl X x) (hm : X.mg x = none) (hv : bootBuiltins x = some (.builtin id)) (ha : SA X ct W (e :: es) fa)
    (hn : x ≠ "__name__" := by decide) (hdb : (x == ("__debug__" : Str)) = false := by decide) (he : starEach (e :: es) X.env = (false, eval e X.env) :: starEach es X.env := by rfl) (hpl : (backTo pos (starEach es X.env)).any (·.1) = false := by rfl) :
    SE X ct W (.Call (.Name x p) (e :: es) [] pos) (un g fa) := by
  obtain ⟨r, hr, k⟩ := c
  exact se_un (fun t ht => pe_callB hr hg hm hv ht hn hdb he hpl) ha k
theorem se_type {T : String} {x : Str} {p pos : Pos} {e : Expr} {es : List Expr} {fa : FA} {g : List PyData → Option OR} (c : CallD X (.type T) g) (hg : Gl X x) (hm : X.mg x = none) (hv : bootBuiltins x = some (.type T)) (ha : SA X ct W (e :: es) fa)
    (hn : x ≠ "__name__" := by decide) (hdb : (x == ("__debug__" : Str)) = false := by decide) (he : starEach (e :: es) X.env = (false, eval e X.env) :: starEach es X.env := by rfl) (hpl : (backTo pos (starEach es X.env)).any (·.1) = false := by rfl) :
    SE X ct W (.Call (.Name x p) (e :: es) [] pos) (un g fa) := by
  obtain ⟨r, hr, k⟩ := c
  exact se_un (fun t ht => pe_callTy hr hg hm hv ht hn hdb he hpl) ha k
theorem bps1 {K : PySem.W.Frag} {F : Addr → Prop} {H : Hp} {xs : List V} {d : PyData} (b : Bps K F H xs [d]) : ∃ v, xs = [v] ∧ Bp K F H v d := by
  cases b with
  | cons a r => cases r; exact ⟨_, rfl, a⟩
theorem bps2 {K : PySem.W.Frag} {F : Addr → Prop} {H : Hp} {xs : List V} {d e : PyData} (b : Bps K F H xs [d, e]) : ∃ v u, xs = [v, u] ∧ Bp K F H v d ∧ Bp K F H u e := by
  cases b with
  | cons a r =>
    obtain ⟨u, rfl, b⟩ := bps1 r
    exact ⟨_, _, rfl, a, b⟩
/-! ### len -/
def lenD : List PyData → Option OR
  | [.str s] => if s.length ≤ Lim then some (.val (.int s.length)) else none
  | [.list xs] => some (.val (.int xs.length))
  | [.tuple xs] => some (.val (.int xs.length))
  | _ => none
theorem call_lenA : CallD X (.builtin "len") lenD := ⟨_, call_len, fun F H xs ds o Q dm b e gv => by
  unfold lenD at e
  split at e
  · split at e
    · rename_i hl
      cases e
      replace b := bps1 b; obtain ⟨v, rfl, b⟩ := b
      cases b.str_
      exact ⟨_, _, rfl, ⟨Nat.le_trans hl lim_line, rfl⟩, gv.here dm (.int _)⟩
    · cases e
  · cases e
    replace b := bps1 b; obtain ⟨v, rfl, b⟩ := b
    obtain ⟨a, vs, rfl, s, r⟩ := b.list_
    exact ⟨_, _, rfl, .inl ⟨vs, s, r.length.symm⟩, gv.here dm (.int _)⟩
  · cases e
    replace b := bps1 b; obtain ⟨v, rfl, b⟩ := b
    obtain ⟨a, vs, rfl, s, r⟩ := b.tup_
    exact ⟨_, _, rfl, .inr ⟨vs, s, r.length.symm⟩, gv.here dm (.int _)⟩
  · cases e⟩
/-! ### all, any, sum -/
def bools : List PyData → Option (List Bool)
  | [] => some []
  | .bool b :: r => (bools r).map (b :: ·)
  | _ => none
theorem bools_rp {K : PySem.W.Frag} {F : Addr → Prop} {H : Hp} : ∀ {ds : List PyData} {vs : List V} {bs : List Bool}, RpA K F H vs ds → bools ds = some bs → vs = bs.map V.bl
  | [], _, bs, .nil, e => by cases e; rfl
  | d :: ds, _, bs, .cons a r, e => by
    cases d with
    | bool b =>
      unfold bools at e
      cases h : bools ds with
      | none => rw [h] at e; cases e
      | some bs2 =>
        rw [h] at e
        cases e
        cases a
        rw [bools_rp r h]
        rfl
    | none => cases e
    | int _ => cases e
    | str _ => cases e
    | list _ => cases e
    | tuple _ => cases e
    | dict _ => cases e
def allD : List PyData → Option OR
  | [.list xs] => (bools xs).map fun bs => .val (.bool (bs.all id))
  | _ => none
theorem call_allA (hc : X.calm = true) : CallD X (.builtin "all") allD := ⟨_, cr_all hc, fun F H xs ds o Q dm b e gv => by
  unfold allD at e
  split at e
  · rename_i xs2
    replace b := bps1 b; obtain ⟨v, rfl, b⟩ := b
    obtain ⟨a, vs, rfl, s, r⟩ := b.list_
    cases h : bools xs2 with
    | none => rw [h] at e; cases e
    | some bs =>
      rw [h] at e
      cases e
      have ev := bools_rp r h
      subst ev
      exact ⟨a, bs, rfl, s, gv.here dm (.bl _)⟩
  · cases e⟩
def intsOf : List PyData → Option (List Int)
  | [] => some []
  | .int b :: r => (intsOf r).map (b :: ·)
  | _ => none
theorem intsOf_rp {K : PySem.W.Frag} {F : Addr → Prop} {H : Hp} : ∀ {ds : List PyData} {vs : List V} {bs : List Int}, RpA K F H vs ds → intsOf ds = some bs → vs = bs.map V.int
  | [], _, bs, .nil, e => by cases e; rfl
  | d :: ds, _, bs, .cons a r, e => by
    cases d with
    | int b =>
      unfold intsOf at e
      cases h : intsOf ds with
      | none => rw [h] at e; cases e
      | some bs2 =>
        rw [h] at e
        cases e
        cases a
        rw [intsOf_rp r h]
        rfl
    | none => cases e
    | bool _ => cases e
    | str _ => cases e
    | list _ => cases e
    | tuple _ => cases e
    | dict _ => cases e
def sumD : List PyData → Option OR
  | [.list xs] => (intsOf xs).map fun bs => .val (.int bs.sum)
  | _ => none
theorem call_sumA (hc : X.calm = true) : CallD X (.builtin "sum") sumD := ⟨_, cr_sum hc, fun F H xs ds o Q dm b e gv => by
  unfold sumD at e
  split at e
  · rename_i xs2
    replace b := bps1 b; obtain ⟨v, rfl, b⟩ := b
    obtain ⟨a, vs, rfl, s, r⟩ := b.list_
    cases h : intsOf xs2 with
    | none => rw [h] at e; cases e
    | some bs =>
      rw [h] at e
      cases e
      have ev := intsOf_rp r h
      subst ev
      exact ⟨a, bs, rfl, s, gv.here dm (.int _)⟩
  · cases e⟩
/-! ### int, str, max, min, list, tuple -/
def intD : List PyData → Option OR
  | [.int i] => some (.val (.int i))
  | [.bool b] => some (.val (.int (if b then 1 else 0)))
  | _ => none
theorem call_intA : CallD X (.type "int") intD := ⟨_, call_int1, fun F H xs ds o Q dm b e gv => by
  unfold intD at e
  split at e
  · cases e
    replace b := bps1 b; obtain ⟨v, rfl, b⟩ := b
    cases b.int_
    exact .inl ⟨_, rfl, gv.here dm (.int _)⟩
  · cases e
    replace b := bps1 b; obtain ⟨v, rfl, b⟩ := b
    cases b.bl_
    exact .inr ⟨_, rfl, gv.here dm (.int _)⟩
  · cases e⟩
def maxD : List PyData → Option OR
  | [.int i, .int j] => some (.val (.int (if j > i then j else i)))
  | _ => none
def minD : List PyData → Option OR
  | [.int i, .int j] => some (.val (.int (if j < i then j else i)))
  | _ => none
theorem call_maxA (hc : X.calm = true) : CallD X (.builtin "max") maxD := ⟨_, call_max2 hc, fun F H xs ds o Q dm b e gv => by
  unfold maxD at e
  split at e
  · cases e
    replace b := bps2 b; obtain ⟨v, u, rfl, b1, b2⟩ := b
    cases b1.int_
    cases b2.int_
    exact ⟨_, _, rfl, gv.here dm (.int _)⟩
  · cases e⟩
theorem call_minA (hc : X.calm = true) : CallD X (.builtin "min") minD := ⟨_, call_min2 hc, fun F H xs ds o Q dm b e gv => by
  unfold minD at e
  split at e
  · cases e
    replace b := bps2 b; obtain ⟨v, u, rfl, b1, b2⟩ := b
    cases b1.int_
    cases b2.int_
    exact ⟨_, _, rfl, gv.here dm (.int _)⟩
  · cases e⟩
def listD : List PyData → Option OR
  | [.list xs] => some (.new (.lst xs))
  | [.tuple xs] => some (.new (.lst xs))
  | _ => none
theorem call_listA : CallD X (.type "list") listD := ⟨_, call_list_of, fun F H xs ds o Q dm b e gv => by
  unfold listD at e
  split at e
  · cases e
    replace b := bps1 b; obtain ⟨v, rfl, b⟩ := b
    obtain ⟨a, vs, rfl, s, r⟩ := b.list_
    exact ⟨a, vs, rfl, .inl s, fun l hl => gv.lst dm hl r⟩
  · cases e
    replace b := bps1 b; obtain ⟨v, rfl, b⟩ := b
    obtain ⟨a, vs, rfl, s, r⟩ := b.tup_
    exact ⟨a, vs, rfl, .inr s, fun l hl => gv.lst dm hl r⟩
  · cases e⟩
def tupleD : List PyData → Option OR
  | [.list xs] => some (.val (.tuple xs))
  | [.tuple xs] => some (.val (.tuple xs))
  | _ => none
theorem call_tupleA : CallD X (.type "tuple") tupleD := ⟨_, call_tuple_F, fun F H xs ds o Q dm b e gv => by
  unfold tupleD at e
  split at e
  · cases e
    replace b := bps1 b; obtain ⟨v, rfl, b⟩ := b
    obtain ⟨a, vs, rfl, s, r⟩ := b.list_
    exact ⟨a, vs, rfl, .inl ⟨s, NewT.of dm gv r⟩⟩
  · cases e
    replace b := bps1 b; obtain ⟨v, rfl, b⟩ := b
    cases b with
    | rp t =>
      cases t with
      | tup f r => exact ⟨_, _, rfl, .inr ⟨f.sq, gv.here dm (.tup f r)⟩⟩
  · cases e⟩
/-! ### isinstance of a built-in class -/
def kindOf : PyData → String
  | .none => "NoneType"
  | .bool _ => "bool"
  | .int _ => "int"
  | .str _ => "str"
  | .list _ => "list"
  | .tuple _ => "tuple"
  | .dict _ => "dict"
/-- isinstance's answers for a class T: by kind -/
def isD (T : String) : PyData → Option OR := fun d => (kitB (kindOf d) T).map fun b => .val (.bool b)
theorem Rd.tyT {K : PySem.W.Frag} {H : Hp} {a : Addr} {xs : List V} (h : SqT K H a xs) : TyX K H (.ref a) (.type "tuple") := by
  rcases h with (h | ⟨o, h⟩) | ⟨o, its, n, h, hc, _⟩
  · exact .base (.tup h)
  · exact .fTuple h
  · exact .kTuple h hc
theorem Rd.tyL {K : PySem.W.Frag} {H : Hp} {a : Addr} {xs : List V} (h : SqL K H a xs) : TyX K H (.ref a) (.type "list") := by
  rcases h with (h | ⟨o, h⟩) | ⟨o, its, n, h, hc, _⟩
  · exact .base (.lst h)
  · exact .base (.frz h)
  · exact .kList h hc
theorem Bp.ty {K : PySem.W.Frag} {F : Addr → Prop} {H : Hp} {v : V} {d : PyData} (b : Bp K F H v d) : TyX K H v (.type (kindOf d)) := by
  cases d with
  | none => cases b.non_; exact .base .non
  | bool x => cases b.bl_; exact .base (.bl x)
  | int x => cases b.int_; exact .base (.int x)
  | str x => cases b.str_; exact .base (.str x)
  | list ds =>
    obtain ⟨a, vs, rfl, s, _⟩ := b.list_
    exact Rd.tyL s
  | tuple ds =>
    obtain ⟨a, vs, rfl, s, _⟩ := b.tup_
    exact Rd.tyT s
  | dict ds =>
    obtain ⟨a, vs, rfl, s, _⟩ := b.dic_
    rcases s with h | ⟨o, h⟩
    · exact .base (.dK h)
    · exact .fDict h
theorem se_is {T : String} {x y : Str} {p p2 pos : Pos} {e : Expr} {f : FE} (hx : x = "isinstance") (hg : Gl X x) (hm : X.mg x = none) (gy : Gl X y) (my : X.mg y = none) (vy : bootBuiltins y = some (.type T)) (he : SE X ct W e f)
    (ny : y ≠ "__name__" := by decide) (dy : (y == ("__debug__" : Str)) = false := by decide) (hs : starEach [e, .Name y p2] X.env = (false, eval e X.env) :: starEach [.Name y p2] X.env := by rfl) (hpl : (backTo pos (starEach [.Name y p2] X.env)).any (·.1) = false := by rfl) :
    SE X ct W (.Call (.Name x p) [e, .Name y p2] [] pos) (u1 (isD T) f) := by
  subst hx
  have py : PE X (.Name y p2) (tC (.ty T)) := pe_bltn gy my vy rfl ny dy
  have rule : ∀ ta, PE X e ta → PE X (.Call (.Name "isinstance" p) [e, .Name y p2] [] pos) (fun σ H Q => ta σ H fun x H1 => rIsi X.K [x, .ty T] H1 Q) := fun ta ha =>
    pe_callB call_isi hg hm boot_isinstance (pa_cons ha (pa_cons py pa_nil) hs) (by decide) (by decide) hs hpl
  refine se_u1 rule he fun F H v d o Q dm b e gv => ?_
  unfold isD at e
  cases h : kitB (kindOf d) T with
  | none => rw [h] at e; cases e
  | some k =>
    rw [h] at e
    cases e
    exact ⟨v, .ty T, _, _, k, rfl, .ty T, b.ty, kit_ty h, gv.here dm (.bl k)⟩
end
end Px
namespace Px
open PySem PySem.Spec PyProof.Rows L2

section
variable {X : Cx} {ct : Gx} {W : WX}
/-! ### in -/
def scalD : PyData → Bool
  | .none => true
  | .bool _ => true
  | .int _ => true
  | .str _ => true
  | _ => false
theorem scal_flat {K : PySem.W.Frag} {F : Addr → Prop} {H : Hp} {v : V} {d : PyData} (h : scalD d = true) (b : Bp K F H v d) : flatV v = true := by
  cases d with
  | none => cases b.non_; rfl
  | bool _ => cases b.bl_; rfl
  | int _ => cases b.int_; rfl
  | str _ => cases b.str_; rfl
  | list _ => cases h
  | tuple _ => cases h
  | dict _ => cases h
theorem scal_eq {K : PySem.W.Frag} {F : Addr → Prop} {H : Hp} {v u : V} {d e : PyData} (h : scalD d = true) (h' : scalD e = true) (b : Bp K F H v d) (b' : Bp K F H u e) : eqV v u = PyData.eqv d e := by
  cases d with
  | none => cases b.non_; cases e with
    | none => cases b'.non_; simp [eqV, PyData.eqv]
    | bool _ => cases b'.bl_; simp [eqV, PyData.eqv]
    | int _ => cases b'.int_; simp [eqV, PyData.eqv]
    | str _ => cases b'.str_; simp [eqV, PyData.eqv]
    | _ => cases h'
  | bool _ => cases b.bl_; cases e with
    | none => cases b'.non_; simp [eqV, PyData.eqv]
    | bool _ => cases b'.bl_; simp [eqV, PyData.eqv]
    | int _ => cases b'.int_; simp [eqV, PyData.eqv]
    | str _ => cases b'.str_; simp [eqV, PyData.eqv]
    | _ => cases h'
  | int _ => cases b.int_; cases e with
    | none => cases b'.non_; simp [eqV, PyData.eqv]
    | bool _ => cases b'.bl_; simp [eqV, PyData.eqv]
    | int _ => cases b'.int_; simp [eqV, PyData.eqv]
    | str _ => cases b'.str_; simp [eqV, PyData.eqv]
    | _ => cases h'
  | str _ => cases b.str_; cases e with
    | none => cases b'.non_; simp [eqV, PyData.eqv]
    | bool _ => cases b'.bl_; simp [eqV, PyData.eqv]
    | int _ => cases b'.int_; simp [eqV, PyData.eqv]
    | str _ => cases b'.str_; simp [eqV, PyData.eqv]
    | _ => cases h'
  | list _ => cases h
  | tuple _ => cases h
  | dict _ => cases h
theorem scal_all {K : PySem.W.Frag} {F : Addr → Prop} {H : Hp} {x : V} {d : PyData} (hd : scalD d = true) (bd : Bp K F H x d) : ∀ {vs : List V} {ds : List PyData}, RpA K F H vs ds → ds.all scalD = true → vs.all flatV = true ∧ inV x vs = ds.any fun z => PyData.eqv z d
  | _, _, .nil, _ => ⟨rfl, rfl⟩
  | _, _, .cons (v := v) (d := e) a r, h => by
    rw [List.all_cons, Bool.and_eq_true] at h
    obtain ⟨i1, i2⟩ := scal_all hd bd r h.2
    refine ⟨by rw [List.all_cons, scal_flat h.1 (.rp a), i1]; rfl, ?_⟩
    unfold inV at i2 ⊢
    rw [List.any_cons, List.any_cons, i2, scal_eq h.1 hd (.rp a) bd]
def inD : PyData → PyData → Option Bool
  | .str c, .str z => match c.cps.toList with
    | [k] => some (decide (k ∈ z.cps.toList))
    | _ => none
  | x, .list ds => if (scalD x && ds.all scalD) = true then some (ds.any fun z => PyData.eqv z x) else if (okEq x && okEq (.list ds)) = true then some (ds.any fun z => PyData.eqv z x) else none
  | x, .tuple ds => if (scalD x && ds.all scalD) = true then some (ds.any fun z => PyData.eqv z x) else none
  | _, _ => none
def notInD : PyData → PyData → Option Bool := fun a b => (inD a b).map (!·)
theorem sign_eq {c : Str} {k : Nat} (h : c.cps.toList = [k]) : c = ⟨#[k]⟩ := by
  cases c with
  | mk a =>
    have : a = #[k] := by
      rw [← Array.toList_inj]
      exact h
    rw [this]
theorem in_ask {F : Addr → Prop} {H : Hp} {x y : V} {d1 d2 : PyData} {b : Bool} (b1 : Bp X.K F H x d1) (b2 : Bp X.K F H y d2) (e : inD d1 d2 = some b) :
    (∃ (c : Nat) (z : Str), x = .str ⟨#[c]⟩ ∧ y = .str z ∧ decide (c ∈ z.cps.toList) = b) ∨ (∃ p xs, y = .ref p ∧ (SqL X.K H p xs ∨ SqT X.K H p xs) ∧ flatV x = true ∧ xs.all flatV = true ∧ inV x xs = b) ∨
      ∃ d ds, Dp X.K H x d ∧ Dp X.K H y (.list ds) ∧ SeqAt.shaped d = true ∧ SeqAt.shaped (.list ds) = true ∧ (ds.any fun z => PyData.eqv z d) = b := by
  unfold inD at e
  split at e
  · rename_i c z
    split at e
    · rename_i k hk
      cases e
      cases b1.str_
      cases b2.str_
      rw [sign_eq hk]
      exact .inl ⟨k, z, rfl, rfl, rfl⟩
    · cases e
  · rename_i ds hne
    split at e
    · rename_i h
      cases e
      rw [Bool.and_eq_true] at h
      obtain ⟨a, vs, rfl, s, r⟩ := b2.list_
      obtain ⟨i1, i2⟩ := scal_all h.1 b1 r h.2
      exact .inr (.inl ⟨a, vs, rfl, .inl s, scal_flat h.1 b1, i1, i2⟩)
    · split at e
      · rename_i h
        cases e
        rw [Bool.and_eq_true] at h
        obtain ⟨s1, n1⟩ := b1.shaped h.1
        obtain ⟨s2, n2⟩ := b2.shaped h.2
        exact .inr (.inr ⟨_, _, b1.dp n1, b2.dp n2, s1, s2, rfl⟩)
      · cases e
  · rename_i xx ds hne
    split at e
    · rename_i h
      cases e
      rw [Bool.and_eq_true] at h
      obtain ⟨a, vs, rfl, s, r⟩ := b2.tup_
      obtain ⟨i1, i2⟩ := scal_all h.1 b1 r h.2
      exact .inr (.inl ⟨a, vs, rfl, .inr s, scal_flat h.1 b1, i1, i2⟩)
    · cases e
  · cases e
theorem rel_in (hu : X.A.units + 65 < cLine) : RelD X .In inD := ⟨_, op_or op_in_sign (op_or op_in_seq (op_inD hu)), fun F H x y d1 d2 b Q b1 b2 e q => by
  rcases in_ask b1 b2 e with ⟨c, z, h1, h2, h3⟩ | ⟨p, xs, h1, h2, h3, h4, h5⟩ | ⟨d, ds, h1, h2, h3, h4, h5⟩
  · exact .inl ⟨c, z, h1, h2, by rw [h3]; exact q⟩
  · exact .inr (.inl ⟨p, xs, h1, h2, h3, h4, by rw [if_neg Bool.false_ne_true, h5]; exact q⟩)
  · exact .inr (.inr ⟨d, ds, h1, h2, h3, h4, by rw [h5]; exact q⟩)⟩
theorem rel_notIn (hu : X.A.units + 65 < cLine) : RelD X .NotIn notInD := ⟨_, op_or op_notIn_sign (op_or op_notIn_seq (op_notInD hu)), fun F H x y d1 d2 b Q b1 b2 e q => by
  unfold notInD at e
  cases h : inD d1 d2 with
  | none => rw [h] at e; cases e
  | some k =>
    rw [h] at e
    cases e
    rcases in_ask b1 b2 h with ⟨c, z, h1, h2, h3⟩ | ⟨p, xs, h1, h2, h3, h4, h5⟩ | ⟨d, ds, h1, h2, h3, h4, h5⟩
    · exact .inl ⟨c, z, h1, h2, by rw [h3]; exact q⟩
    · exact .inr (.inl ⟨p, xs, h1, h2, h3, h4, by rw [if_pos rfl, h5]; exact q⟩)
    · exact .inr (.inr ⟨d, ds, h1, h2, h3, h4, by rw [h5]; exact q⟩)⟩
/-! ### a < b < c -/
def t3 (c1 c2 : PyData → PyData → Option Bool) (f1 f2 f3 : FE) : FT := fun sl st => match f1 sl st with
  | .fail => .fail
  | .exc x st1 => .exc x st1
  | .ok ev1 st1 => match f2 sl st1 with
    | .fail => .fail
    | .exc x st2 => .exc x st2
    | .ok (.val d2) st2 => match ev1.dat st2 with
      | none => .fail
      | some d1 => match c1 d1 d2 with
        | none => .fail
        | some false => .ok false st2
        | some true => match f3 sl st2 with
          | .fail => .fail
          | .exc x st3 => .exc x st3
          | .ok ev3 st3 => match ev3.dat st3 with
            | none => .fail
            | some d3 => match c2 d2 d3 with
              | none => .fail
              | some k => .ok k st3
    | .ok _ _ => .fail
theorem OutT.imp {B : Bs} {σ : L2.St} {ω : Wd} {H : Hp} {sl : Sls} {r : Re Bool} {Q Q' : Bool → Hp → Prop} (h : OutT B W σ ω H sl r Q) (i : ∀ b H, Q b H → Q' b H) : OutT B W σ ω H sl r Q' := by
  cases r with
  | fail => exact h
  | exc x st => exact h
  | ok b st => exact fun ω' H' e s' => i _ _ (h ω' H' e s')
theorem chain_read {B : Bs} (hB : B.K = X.K) {f1 f2 f3 : FE} {c1 c2 : PyData → PyData → Option Bool} {r1 r2 : R2} (k1 : ∀ F H x y d1 d2 b Q, Bp X.K F H x d1 → Bp X.K F H y d2 → c1 d1 d2 = some b → Q (.bl b) H → r1 x y H Q)
    (k2 : ∀ F H x y d1 d2 b Q, Bp X.K F H x d1 → Bp X.K F H y d2 → c2 d1 d2 = some b → Q (.bl b) H → r2 x y H Q) {sl : Sls} {st : Sto} {σ : L2.St} {H : Hp} {Q : VK} {ω : Wd} (s : SR B ω H σ sl st) (q : OutT B W σ ω H sl (t3 c1 c2 f1 f2 f3 sl st) (fun b H' => Q (.bl b) H')) :
    tChain r1 r2 (fun σ H Q => ∃ sl st ω, SR B ω H σ sl st ∧ OutE B W σ ω H sl (f1 sl st) Q) (fun σ H Q => ∃ sl st ω, SR B ω H σ sl st ∧ OutE B W σ ω H sl (f2 sl st) Q) (fun σ H Q => ∃ sl st ω, SR B ω H σ sl st ∧ OutE B W σ ω H sl (f3 sl st) Q) σ H Q := by
  refine ⟨sl, st, ω, s, ?_⟩
  unfold t3 at q
  cases hf1 : f1 sl st with
  | fail => rw [hf1] at q; exact q
  | exc x st1 => rw [hf1] at q; exact q
  | ok ev1 st1 =>
    rw [hf1] at q
    dsimp only at q
    intro v ω1 H1 x1 s1 hv
    obtain ⟨ω2, x2, s2, hv2⟩ := VR.soft s1 hv
    refine ⟨sl, st1, ω2, s2, ?_⟩
    have x12 := x1.trans x2
    cases hf2 : f2 sl st1 with
    | fail => rw [hf2] at q; exact q
    | exc x st2 => rw [hf2] at q; exact OutT.up q x12
    | ok ev2 st2 =>
      rw [hf2] at q
      intro u ω3 H3 x3 s3 hu
      have hv3 := VR.up x3 hv2
      cases ev2 with
      | bor n => exact q.elim
      | new o => exact q.elim
      | lost => exact q.elim
      | val d2 =>
        dsimp only at q
        cases hd1 : ev1.dat st2 with
        | none => rw [hd1] at q; exact q.elim
        | some d1 =>
          rw [hd1] at q
          dsimp only at q
          have hu' : Rp B.K ω3.F H3 u d2 := hu
          have b1 := VR.bp s3 hv3 (by rw [EV.soft_dat]; exact hd1)
          rw [hB] at b1
          cases hk : c1 d1 d2 with
          | none => rw [hk] at q; exact q.elim
          | some k =>
            rw [hk] at q
            refine k1 ω3.F H3 v u d1 d2 k _ b1 (.rp (by rw [← hB]; exact hu')) hk ⟨k, rfl, ?_⟩
            have x123 := x12.trans x3
            cases k with
            | false =>
              rw [if_neg Bool.false_ne_true]
              exact q ω3 H3 x123 s3
            | true =>
              rw [if_pos rfl]
              dsimp only at q
              refine ⟨sl, st2, ω3, s3, ?_⟩
              cases hf3 : f3 sl st2 with
              | fail => rw [hf3] at q; exact q
              | exc x st3 => rw [hf3] at q; exact OutT.up q x123
              | ok ev3 st3 =>
                rw [hf3] at q
                dsimp only at q
                intro z ω4 H4 x4 s4 hz
                cases hd3 : ev3.dat st3 with
                | none => rw [hd3] at q; exact q.elim
                | some d3 =>
                  rw [hd3] at q
                  dsimp only at q
                  have b3 := VR.bp s4 hz hd3
                  have b2 : Rp B.K ω4.F H4 u d2 := hu'.up x4.fr
                  rw [hB] at b3 b2
                  cases hk2 : c2 d2 d3 with
                  | none => rw [hk2] at q; exact q.elim
                  | some k' =>
                    rw [hk2] at q
                    exact k2 ω4.F H4 u z d2 d3 k' _ (.rp b2) b3 hk2 (q ω4 H4 (x123.trans x4) s4)
theorem st_chain {a b c : Expr} {op op' : CmpOp} {f1 f2 f3 : FE} {pos} {c1 c2 : PyData → PyData → Option Bool} (r1 : RelD X op c1) (r2 : RelD X op' c2) (ha : SE X ct W a f1) (hb : SE X ct W b f2) (hcc : SE X ct W c f3)
    (hm : lastMarks [op, op'] [b, c] = false := by with_unfolding_all rfl) : ST X ct W (.Compare a [op, op'] [b, c] pos) (t3 c1 c2 f1 f2 f3) := by
  obtain ⟨r1, hop1, k1⟩ := r1
  obtain ⟨r2, hop2, k2⟩ := r2
  exact fun B hB hc sl st => pt_imp (pt_chain hop1 hop2 (ha.all hB hc) (hb.all hB hc) (hcc.all hB hc) hm) fun σ H Q ⟨ω, s, q⟩ => chain_read hB k1 k2 s (OutT.imp q fun b H' h => ⟨b, rfl, h⟩)
theorem se_chain {a b c : Expr} {op op' : CmpOp} {f1 f2 f3 : FE} {pos} {c1 c2 : PyData → PyData → Option Bool} (r1 : RelD X op c1) (r2 : RelD X op' c2) (ha : SE X ct W a f1) (hb : SE X ct W b f2) (hcc : SE X ct W c f3)
    (hm : lastMarks [op, op'] [b, c] = false := by with_unfolding_all rfl) : SE X ct W (.Compare a [op, op'] [b, c] pos) (eOfT (t3 c1 c2 f1 f2 f3)) := by
  obtain ⟨r1, hop1, k1⟩ := r1
  obtain ⟨r2, hop2, k2⟩ := r2
  refine fun B hB hc sl st => pe_imp (pe_chain hop1 hop2 (ha.all hB hc) (hb.all hB hc) (hcc.all hB hc) hm) fun σ H Q ⟨ω, s, q⟩ => ?_
  have q' : OutT B W σ ω H sl (t3 c1 c2 f1 f2 f3 sl st) (fun b H' => Q (.bl b) H') := by
    unfold eOfT at q
    cases h : t3 c1 c2 f1 f2 f3 sl st with
    | fail => rw [h] at q; exact q
    | exc x st1 => rw [h] at q; exact q
    | ok k st1 => rw [h] at q; exact fun ω' H' e s' => q (.bl k) ω' H' e s' (.bl k)
  exact chain_read hB k1 k2 s q'
/-! ### items, slices -/
def ixD : PyData → PyData → Option OR
  | .list ds, .int i => (atI ds i).map .val
  | .tuple ds, .int i => (atI ds i).map .val
  | .str s, .int i => if s.length ≤ Lim then (atI s.cps.toList i).map fun c => .val (.str ⟨#[c]⟩) else none
  | _, _ => none
theorem atI_rp {K : PySem.W.Frag} {F : Addr → Prop} {H : Hp} {vs : List V} {ds : List PyData} {i : Int} {d : PyData} (r : RpA K F H vs ds) (h : atI ds i = some d) : ∃ v, atI vs i = some v ∧ Rp K F H v d := by
  unfold atI at h ⊢
  rw [r.length]
  cases hj : ixN ds.length i with
  | none => rw [hj] at h; cases h
  | some j =>
    rw [hj] at h
    obtain ⟨v, h1, h2⟩ := r.get h
    exact ⟨v, h1, h2⟩
theorem strOk_sub {x y : Str} (h : PyData.strOk x = true) (s : ∀ c ∈ y.cps.toList, c ∈ x.cps.toList) : PyData.strOk y = true := by
  rw [strOk_iff] at *
  exact fun c hc => h c (s c hc)
theorem atI_mem {α : Type} {xs : List α} {i : Int} {x : α} (h : atI xs i = some x) : x ∈ xs := by
  unfold atI at h
  cases hj : ixN xs.length i with
  | none => rw [hj] at h; cases h
  | some j => rw [hj] at h; exact List.mem_of_getElem? h
theorem se_ix {a b : Expr} {f g : FE} {pos} (h1 : SE X ct W a f) (h2 : SE X ct W b g) (hs : PlainIx b := by exact fun _ _ => rfl) : SE X ct W (.Subscript a b pos) (u2 ixD f g) := by
  refine se_u2 (fun ta tb ha hb => pe_ix ix_seq ha hb hs) h1 h2 fun F H x y d1 d2 o Q dm b1 b2 e gv => ?_
  unfold ixD at e
  split at e
  · rename_i ds i
    cases hd : atI ds i with
    | none => rw [hd] at e; cases e
    | some d =>
      rw [hd] at e
      cases e
      cases b2.int_
      obtain ⟨a, vs, rfl, s, r⟩ := b1.list_
      obtain ⟨v, hv, rv⟩ := atI_rp r hd
      exact .inl ⟨a, vs, i, v, rfl, rfl, s, hv, gv.here dm rv⟩
  · rename_i ds i
    cases hd : atI ds i with
    | none => rw [hd] at e; cases e
    | some d =>
      rw [hd] at e
      cases e
      cases b2.int_
      obtain ⟨a, vs, rfl, s, r⟩ := b1.tup_
      obtain ⟨v, hv, rv⟩ := atI_rp r hd
      exact .inr (.inl ⟨a, vs, i, v, rfl, rfl, s, hv, gv.here dm rv⟩)
  · rename_i s i
    split at e
    · rename_i hl
      cases hd : atI s.cps.toList i with
      | none => rw [hd] at e; cases e
      | some c =>
        rw [hd] at e
        cases e
        have k := b1.ok_
        cases b2.int_
        cases b1.str_
        exact .inr (.inr ⟨s, i, c, rfl, rfl, Nat.le_trans hl lim_line, hd, gv.here dm (.str _ (strOk_sub k fun c2 h2 => by simp at h2; subst h2; exact atI_mem hd))⟩)
    · cases e
  · cases e
/-- an optional part of a slice -/
abbrev FO := Sls → Sto → Re (Option Int)
def OutO (B : Bs) (W : WX) (σ : L2.St) (ω : Wd) (H : Hp) (sl : Sls) (r : Re (Option Int)) (Q : Option Int → Hp → Prop) : Prop := match r with
  | .fail => False
  | .ok o st => ∀ ω' H', Ext B ω H ω' H' → SR B ω' H' σ sl st → Q o H'
  | .exc x st => ∀ cls d ω' H', Ext B ω H ω' H' → SR B ω' H' σ sl st → ExR B x cls d H' → W cls d σ H'
def SO (X : Cx) (ct : Gx) (W : WX) (e : Option Expr) (f : FO) : Prop := ∀ (B : Bs), B.K = X.K → B.ct = ct → PO X e (fun σ H Q => ∃ sl st ω, SR B ω H σ sl st ∧ OutO B W σ ω H sl (f sl st) Q)
theorem po_imp {e : Option Expr} {t t' : TO} (h : PO X e t) (i : ∀ σ H Q, t' σ H Q → t σ H Q) : PO X e t' := ⟨fun pins s σ H Q I q => h.run pins s σ H Q I (i _ _ _ q)⟩
def oNone : FO := fun _ st => .ok none st
def oInt (f : FE) : FO := fun sl st => match f sl st with
  | .fail => .fail
  | .exc x st1 => .exc x st1
  | .ok (.val (.int i)) st1 => .ok (some i) st1
  | .ok _ _ => .fail
theorem so_none : SO X ct W none oNone := fun B hB hc => po_imp po_none fun σ H Q ⟨sl, st, ω, s, q⟩ => q ω H .refl s
theorem so_some {e : Expr} {f : FE} (h : SE X ct W e f) : SO X ct W (some e) (oInt f) := by
  intro B hB hc
  refine po_imp (po_some (h.all hB hc)) fun σ H Q ⟨sl, st, ω, s, q⟩ => ⟨sl, st, ω, s, ?_⟩
  unfold oInt at q
  cases hf : f sl st with
  | fail => rw [hf] at q; exact q
  | exc x st1 => rw [hf] at q; exact q
  | ok ev st1 =>
    rw [hf] at q
    intro v ω' H' x s' hv
    cases ev with
    | bor n => exact q.elim
    | new o => exact q.elim
    | lost => exact q.elim
    | val d =>
      cases d with
      | int i =>
        have hv' : Rp B.K ω'.F H' v (.int i) := hv
        cases hv'
        exact ⟨i, rfl, q ω' H' x s'⟩
      | none => exact q.elim
      | bool _ => exact q.elim
      | str _ => exact q.elim
      | list _ => exact q.elim
      | tuple _ => exact q.elim
      | dict _ => exact q.elim
def cutL {α : Type} (xs : List α) (lo hi : Option Int) : List α := (xs.drop (HT.sIx xs.length 0 lo)).take (HT.sIx xs.length xs.length hi - HT.sIx xs.length 0 lo)
def cutD (lo hi : Option Int) : PyData → Option OR
  | .list ds => some (.new (.lst (cutL ds lo hi)))
  | .tuple ds => some (.val (.tuple (cutL ds lo hi)))
  | .str s => if s.length ≤ Lim then some (.val (.str (cutS s lo hi))) else none
  | _ => none
def eCut (f : FE) (l h : FO) : FE := fun sl st => match f sl st with
  | .fail => .fail
  | .exc x st1 => .exc x st1
  | .ok ev st1 => match l sl st1 with
    | .fail => .fail
    | .exc x st2 => .exc x st2
    | .ok lo st2 => match h sl st2 with
      | .fail => .fail
      | .exc x st3 => .exc x st3
      | .ok hi st3 => match ev.dat st3 with
        | none => .fail
        | some d => match cutD lo hi d with
          | none => .fail
          | some r => .ok r.ev st3
theorem se_cut {e : Expr} {lo hi : Option Expr} {f : FE} {l h : FO} {pos p2} (he : SE X ct W e f) (hl : SO X ct W lo l) (hh : SO X ct W hi h) : SE X ct W (.Subscript e (.Slice lo hi none p2) pos) (eCut f l h) := by
  intro B hB hc sl st
  refine pe_imp (pe_slice (L2.SlR.or sl_list (L2.SlR.or sl_tupF sl_str)) (he.all hB hc) (hl B hB hc) (hh B hB hc)) fun σ H Q ⟨ω, s, q⟩ => ⟨sl, st, ω, s, ?_⟩
  unfold eCut at q
  cases hf : f sl st with
  | fail => rw [hf] at q; exact q
  | exc x st1 => rw [hf] at q; exact q
  | ok ev st1 =>
    rw [hf] at q
    dsimp only at q
    intro v ω1 H1 x1 s1 hv
    obtain ⟨ω2, x2, s2, hv2⟩ := VR.soft s1 hv
    have x12 := x1.trans x2
    refine ⟨sl, st1, ω2, s2, ?_⟩
    cases hfl : l sl st1 with
    | fail => rw [hfl] at q; exact q
    | exc x st2 => rw [hfl] at q; exact fun cls d ω' H' e s' => q cls d ω' H' (x12.trans e) s'
    | ok lo' st2 =>
      rw [hfl] at q
      dsimp only at q
      intro ω3 H3 x3 s3
      have x13 := x12.trans x3
      refine ⟨sl, st2, ω3, s3, ?_⟩
      cases hfh : h sl st2 with
      | fail => rw [hfh] at q; exact q
      | exc x st3 => rw [hfh] at q; exact fun cls d ω' H' e s' => q cls d ω' H' (x13.trans e) s'
      | ok hi' st3 =>
        rw [hfh] at q
        dsimp only at q
        intro ω4 H4 x4 s4
        have hv4 := VR.up x4 (VR.up x3 hv2)
        cases hd : ev.dat st3 with
        | none => rw [hd] at q; exact q.elim
        | some d =>
          rw [hd] at q
          dsimp only at q
          have b := VR.bp s4 hv4 (by rw [EV.soft_dat]; exact hd)
          cases hg : cutD lo' hi' d with
          | none => rw [hg] at q; exact q.elim
          | some o =>
            rw [hg] at q
            have gv := Give.of s4 (OutE.up q (x13.trans x4))
            have dm := s4.dom
            rw [hB] at b gv
            unfold cutD at hg
            split at hg
            · cases hg
              obtain ⟨a, vs, rfl, sq, r⟩ := b.list_
              refine .inl ⟨a, vs, rfl, sq, fun p hp => ?_⟩
              have e1 : cutV vs lo' hi' = (vs.drop (HT.sIx vs.length 0 lo')).take (HT.sIx vs.length vs.length hi' - HT.sIx vs.length 0 lo') := rfl
              rw [e1, r.length]
              exact gv.lst dm hp ((r.drop _).take _)
            · cases hg
              cases b with
              | rp t =>
                cases t with
                | tup fz r =>
                  refine .inr (.inl ⟨_, _, rfl, fz.sq, fun w => ?_, fun w => ?_⟩)
                  · have gv' := gv
                    unfold cutL at gv'
                    rw [← r.length, w.1, w.2, List.drop_zero, Nat.sub_zero, r.length, List.take_length] at gv'
                    exact gv'.here dm (.tup fz r)
                  · unfold cutV
                    rw [r.length]
                    exact NewT.of dm gv ((r.drop _).take _)
            · rename_i s
              split at hg
              · rename_i hl
                cases hg
                have k := b.ok_
                cases b.str_
                refine .inr (.inr ⟨s, rfl, Nat.le_trans hl lim_line, gv.here dm (.str _ (strOk_sub k fun c hc => ?_))⟩)
                unfold cutS at hc
                simp only [List.toList_toArray] at hc
                exact List.mem_of_mem_drop (List.mem_of_mem_take hc)
              · cases hg
            · cases hg
end
end Px
namespace Px
open PySem PySem.Spec PyProof.Rows L2

section
variable {X : Cx} {ct : Gx} {W : WX}
/-! ### a thing of the store is changed -/
theorem SR.put {B : Bs} {ω : Wd} {H : Hp} {σ : L2.St} {sl : Sls} {st : Sto} {n : Nat} {c : Cell} {p : Addr} {o : MO} {ho : HO} (s : SR B ω H σ sl st) (hc : st[n]? = some c) (hp : ω.ad[n]? = some p) (nf : (∀ d, c ≠ .fz d) ∧ ∀ kvs, c ≠ .kd kvs) (nF : ¬ ω.F p)
    (m : MOR B.K ω.F (upd H p ho) p o) : SR B ω (upd H p ho) σ sl (st.set n (putC c o)) ∧ Ext B ω H ω (upd H p ho) := by
  have po : Post B.K ω.F H [p] ω.F (upd H p ho) [o] := ⟨fun a h => ⟨h, upd_ne fun e => nF (e ▸ h)⟩, fun a u h hn => by rw [upd_ne fun e => hn (by rw [e]; exact List.mem_singleton_self p)]; exact h, fun a h => .inl h, fun a h => upd_some (s.dom a h), .cons ⟨nF, m⟩ .nil⟩
  have := s.called (ns := [n]) (by simp) (.cons ⟨hp, c, hc, nf⟩ .nil) po
  unfold putAll at this
  rw [hc] at this
  unfold putAll at this
  exact this
/-- the list that a cell holds, where it may be changed -/
def lstAt (st : Sto) (n : Nat) : Option (List PyData) := match st[n]? with
  | some (.live (.lst xs)) => some xs
  | some (.io (.lst xs)) => some xs
  | _ => none
def putAt (st : Sto) (n : Nat) (o : MO) : Sto := match st[n]? with
  | some c => st.set n (putC c o)
  | none => st
theorem lstAt_ok {B : Bs} {ω : Wd} {H : Hp} {σ : L2.St} {sl : Sls} {st : Sto} {n : Nat} {p : Addr} {xs : List PyData} (s : SR B ω H σ sl st) (hp : ω.ad[n]? = some p) (h : lstAt st n = some xs) :
    ∃ c vs, st[n]? = some c ∧ ((∀ d, c ≠ .fz d) ∧ ∀ kvs, c ≠ .kd kvs) ∧ ¬ ω.F p ∧ H p = some (.lst vs) ∧ RpA B.K ω.F H vs xs := by
  unfold lstAt at h
  split at h
  · rename_i ys hc
    cases h
    obtain ⟨q1, vs, q2, q3⟩ := s.cell n _ p hc hp
    exact ⟨_, vs, hc, ⟨(fun d z => nomatch z), (fun d z => nomatch z)⟩, q1, q2, q3⟩
  · rename_i ys hc
    cases h
    obtain ⟨q1, vs, q2, q3⟩ := s.cell n _ p hc hp
    exact ⟨_, vs, hc, ⟨(fun d z => nomatch z), (fun d z => nomatch z)⟩, q1, q2, q3⟩
  · cases h
/-- xs.append(e) -/
def eApp (f g : FE) : FE := fun sl st => match f sl st with
  | .ok (.bor n) st1 => if lstAt st1 n = none then .fail else match g sl st1 with
    | .fail => .fail
    | .exc x st2 => .exc x st2
    | .ok ev st2 => match ev.fix st2 with
      | none => .fail
      | some (d, st3) => match lstAt st3 n with
        | none => .fail
        | some xs => if xs.length < Lim then .ok (.val .none) (putAt st3 n (.lst (xs ++ [d]))) else .fail
  | _ => .fail
theorem se_append {o e : Expr} {f g : FE} {apos cpos : Pos} (ho : SE X ct W o f) (he : SE X ct W e g) (hbase : attributeBase o "append" X.env (eval o X.env) = eval o X.env := by rfl)
    (hfew : ((backTo cpos (starEach [e] X.env)).all (fun x => !x.1) && (backToKw cpos (keywordEach [] X.env)).all (fun x => x.1.isSome) && decide (([e] : List Expr).length + ([] : List Keyword).length + (if ([] : List Keyword).isEmpty then 0 else 1) < 30)) = true := by rfl)
    (hline : (apos.endLine == cpos.line) = true := by rfl) (hs : starEach [e] X.env = (false, eval e X.env) :: starEach [] X.env := by rfl) (hplain : (backTo cpos (starEach ([] : List Expr) X.env)).any (·.1) = false := by rfl) :
    SE X ct W (.Call (.Attribute o "append" apos) [e] [] cpos) (eApp f g) := by
  intro B hB hc sl st
  refine pe_imp (pe_bm PySem.F.plainAttrs_list PySem.F.slot_list_append PySem.F.type_list_append mt_append (ho.all hB hc) (pa_cons (he.all hB hc) pa_nil hs) hbase hfew hline hs hplain) fun σ H Q ⟨ω, s, q⟩ => ⟨sl, st, ω, s, ?_⟩
  unfold eApp at q
  cases hf : f sl st with
  | fail => rw [hf] at q; exact q
  | exc x st1 => rw [hf] at q; exact q.elim
  | ok ev1 st1 =>
    rw [hf] at q
    intro v ω1 H1 x1 s1 hv
    cases ev1 with
    | val d => exact q.elim
    | new o => exact q.elim
    | lost => exact q.elim
    | bor n =>
      dsimp only at q
      obtain ⟨p, hp, rfl⟩ := hv
      cases hl0 : lstAt st1 n with
      | none => rw [if_pos hl0] at q; exact q.elim
      | some xs0 =>
      rw [if_neg (by rw [hl0]; intro z; cases z)] at q
      obtain ⟨c0, vs0, k01, k02, k03, k04, k05⟩ := lstAt_ok s1 hp hl0
      have ty : tyV X.K "list" (.ref p) H1 := .inl ⟨rfl, vs0, .of k04⟩
      cases hg : g sl st1 with
      | fail => rw [hg] at q; exact q.elim
      | exc x st2 =>
        rw [hg] at q
        refine ⟨ty, sl, st1, ω1, s1, ?_⟩
        rw [hg]
        exact fun cls d ω' H' e s' => q cls d ω' H' (x1.trans e) s'
      | ok ev st2 =>
        rw [hg] at q
        dsimp only at q
        refine ⟨ty, sl, st1, ω1, s1, ?_⟩
        rw [hg]
        intro u ω2 H2 x2 s2 hu
        cases hx : ev.fix st2 with
        | none => rw [hx] at q; exact q.elim
        | some pr =>
          obtain ⟨d, st3⟩ := pr
          rw [hx] at q
          dsimp only at q
          obtain ⟨ω3, x3, s3, r3⟩ := VR.fix s2 hu hx
          have x23 := x2.trans x3
          have hp3 : ω3.ad[n]? = some p := by
            obtain ⟨t, ht⟩ := x23.ad
            rw [← ht, List.getElem?_append_left (List.getElem?_eq_some_iff.mp hp).1]
            exact hp
          cases hl : lstAt st3 n with
          | none => rw [hl] at q; exact q.elim
          | some xs =>
            rw [hl] at q
            dsimp only at q
            by_cases hz : xs.length < Lim
            · rw [if_pos hz] at q
              obtain ⟨c3, vs, k1, k2, k3, k4, k5⟩ := lstAt_ok s3 hp3 hl
              have fr : Fr ω3.F H2 ω3.F (upd H2 p (.lst (vs ++ [u]))) := fun a h => ⟨h, upd_ne fun e => k3 (e ▸ h)⟩
              obtain ⟨s4, x4⟩ := s3.put (o := .lst (xs ++ [d])) k1 hp3 k2 k3 ⟨vs ++ [u], upd_same, (k5.append (.cons r3 .nil)).up fr⟩
              unfold putAt at q
              rw [k1] at q
              exact ⟨p, vs, u, rfl, rfl, k4, by rw [k5.length]; exact Nat.lt_of_lt_of_le hz lim_line, q .non ω3 _ ((x1.trans x23).trans x4) s4 .non⟩
            · rw [if_neg hz] at q; exact q.elim
/-- xs[i] = e -/
def sSetIx (fv fo fi : FE) : FS := fun sl st => match fv sl st with
  | .fail => .fail
  | .exc x st1 => .exc x sl st1
  | .ok ev st1 => match ev.fix st1 with
    | none => .fail
    | some (d, st2) => match fo sl st2 with
      | .ok (.bor n) st3 => match fi sl st3 with
        | .ok (.val (.int i)) st4 => match lstAt st4 n with
          | none => .fail
          | some xs => match ixN xs.length i with
            | none => .fail
            | some j => .nx sl (putAt st4 n (.lst (xs.set j d)))
        | _ => .fail
      | _ => .fail
theorem ss_setIx {o i e : Expr} {fv fo fi : FE} {pos p2 : Pos} (hv : SE X ct W e fv) (ho : SE X ct W o fo) (hi : SE X ct W i fi) (hs : swapsWithSole [.Subscript o i p2] e pos.line X.env = pure false := by rfl) (hw : swappedStores [.Subscript o i p2] e X.env = pure none := by rfl)
    (h1 : (assignEach [.Subscript o i p2] X.env).map (·.2) = [assign (.Subscript o i p2) X.env] := by rfl)
    (ha : ∀ v, assign (.Subscript o i p2) X.env v = (do
      let ov ← holding [v] (eval o X.env)
      let iv ← holding [v, ov] (eval i X.env)
      standAt p2
      holding [v, ov, iv] (setItem ov iv v)
      release [v, ov, iv] []) := by intro _; rfl) : SS X ct W (.Assign [.Subscript o i p2] e pos) (sSetIx fv fo fi) := by
  intro B hB hc sl st
  refine ps_imp (ps_asg (hv.all hB hc) (pg_sub (ho.all hB hc) (hi.all hB hc) set_list ha) hs hw h1) fun D σ H ⟨ω, s, q⟩ => ⟨sl, st, ω, s, ?_⟩
  unfold sSetIx at q
  cases hf : fv sl st with
  | fail => rw [hf] at q; exact q
  | exc x st1 => rw [hf] at q; exact fun cls d ω' H' e s' r => q cls d σ ω' H' e s' r
  | ok ev st1 =>
    rw [hf] at q
    dsimp only at q
    intro v ω1 H1 x1 s1 hv1
    cases hx : ev.fix st1 with
    | none => rw [hx] at q; exact q.elim
    | some pr =>
      obtain ⟨d, st2⟩ := pr
      rw [hx] at q
      dsimp only at q
      obtain ⟨ω2, x2, s2, r2⟩ := VR.fix s1 hv1 hx
      refine ⟨sl, st2, ω2, s2, ?_⟩
      cases hfo : fo sl st2 with
      | fail => rw [hfo] at q; exact q.elim
      | exc x st3 => rw [hfo] at q; exact q.elim
      | ok ev3 st3 =>
        rw [hfo] at q
        cases ev3 with
        | val _ => exact q.elim
        | new _ => exact q.elim
        | lost => exact q.elim
        | bor n =>
          dsimp only at q
          intro ov ω3 H3 x3 s3 ho3
          obtain ⟨p, hp, rfl⟩ := ho3
          refine ⟨sl, st3, ω3, s3, ?_⟩
          cases hfi : fi sl st3 with
          | fail => rw [hfi] at q; exact q.elim
          | exc x st4 => rw [hfi] at q; exact q.elim
          | ok ev4 st4 =>
            rw [hfi] at q
            cases ev4 with
            | bor _ => exact q.elim
            | new _ => exact q.elim
            | lost => exact q.elim
            | val d4 =>
              cases d4 with
              | int i =>
                dsimp only at q
                intro iv ω4 H4 x4 s4 hi4
                have hi4' : Rp B.K ω4.F H4 iv (.int i) := hi4
                cases hi4'
                have hp4 : ω4.ad[n]? = some p := by
                  obtain ⟨t, ht⟩ := x4.ad
                  rw [← ht, List.getElem?_append_left (List.getElem?_eq_some_iff.mp hp).1]
                  exact hp
                cases hl : lstAt st4 n with
                | none => rw [hl] at q; exact q.elim
                | some xs =>
                  rw [hl] at q
                  dsimp only at q
                  cases hj : ixN xs.length i with
                  | none => rw [hj] at q; exact q.elim
                  | some j =>
                    rw [hj] at q
                    dsimp only at q
                    obtain ⟨c4, vs, k1, k2, k3, k4, k5⟩ := lstAt_ok s4 hp4 hl
                    have fr : Fr ω4.F H4 ω4.F (upd H4 p (.lst (vs.set j v))) := fun a h => ⟨h, upd_ne fun e => k3 (e ▸ h)⟩
                    have r4 := (r2.up x3.fr).up x4.fr
                    obtain ⟨s5, x5⟩ := s4.put (o := .lst (xs.set j d)) k1 hp4 k2 k3 ⟨vs.set j v, upd_same, (RpA.set r4 j k5).up fr⟩
                    unfold putAt at q
                    rw [k1] at q
                    exact ⟨p, vs, i, j, rfl, rfl, k4, by rw [k5.length]; exact hj, q σ ω4 _ ((((x1.trans x2).trans x3).trans x4).trans x5) s5⟩
              | none => exact q.elim
              | bool _ => exact q.elim
              | str _ => exact q.elim
              | list _ => exact q.elim
              | tuple _ => exact q.elim
              | dict _ => exact q.elim
/-! ### raise, try -/
def sRaise (nm : String) : FS := fun sl st => .exc ⟨nm, none⟩ sl st
theorem ss_raise {C : Addr} {bmB : List Value} {Bn newId initId : String} {x m : Str} {j : Nat} {p p2 pos pos' : Pos} (nm : String) (hc : X.calm = true) (tk : Takes X W) (F : ExcBaseFacts Bn newId initId bmB) (q : PySem.W.excIn X.K C bmB newId = true) (gC : X.mg x = some (.ref C))
    (kC : PySem.W.keepIn X.K (.ref C) = true) (r : Raises X (.ref C)) (hg : Gl X x) (ht : ct.tab nm = some C) (hdb : (x == ("__debug__" : Str)) = false := by decide) : SS X ct W (.Raise (some (.Call (.Name x p) [.Constant (.str m) j p2] [] pos)) none pos') (sRaise nm) := by
  intro B hB hcc sl st
  exact ps_imp (ps_raise hc tk (pmk_own F q gC kC r hg hdb)) fun D σ H ⟨ω, s, q⟩ => q _ none σ ω H .refl s ⟨C, by rw [hcc]; exact ht, rfl, rfl, rfl⟩
/-- isinstance(e, C) of the exception that is handled; y: the class's name -/
def eIsE (i : Nat) (isx : Exn → Option Bool) : FE := fun sl st => match sl[i]? with
  | some (.hot x) => match isx x with
    | some b => .ok (.val (.bool b)) st
    | none => .fail
  | _ => .fail
/-- in an except suite: what is handled is of the class C0 at a -/
structure HotAt (X : Cx) (ct : Gx) (C0 : Addr) : Prop where
  is : ∀ {x y z : Str} {p p1 p2 pos : Pos} {C : Addr} {b : Bool} (i : Nat), X.N[i]? = some z → Vis X.env.scope z → (z == ("__debug__" : Str)) = false → (z == ("__classdict__" : Str)) = false → x = "isinstance" → Gl X x → X.mg x = none → Gl X y → X.mg y = some (.ref C) → (y == ("__debug__" : Str)) = false →
    PySem.W.kitOne X.K (.ref C0) (.ref C) = some b → starEach [.Name z p1, .Name y p2] X.env = (false, eval (.Name z p1) X.env) :: starEach [.Name y p2] X.env → starEach [.Name y p2] X.env = (false, eval (.Name y p2) X.env) :: starEach [] X.env → (backTo pos (starEach [.Name y p2] X.env)).any (·.1) = false →
    PE X (.Call (.Name x p) [.Name z p1, .Name y p2] [] pos) (fun σ H Q => σ[i]? = some (some (.ref ct.hot)) ∧ Q (.bl b) H)
/-! ### join -/
def strsOf : List PyData → Option (List Str)
  | [] => some []
  | .str b :: r => (strsOf r).map (b :: ·)
  | _ => none
theorem strsOf_rp {K : PySem.W.Frag} {F : Addr → Prop} {H : Hp} : ∀ {ds : List PyData} {vs : List V} {bs : List Str}, RpA K F H vs ds → strsOf ds = some bs → vs = bs.map V.str ∧ ∀ b ∈ bs, PyData.strOk b = true
  | [], _, bs, .nil, e => by cases e; exact ⟨rfl, fun b hb => by cases hb⟩
  | d :: ds, _, bs, .cons a r, e => by
    cases d with
    | str b =>
      unfold strsOf at e
      cases h : strsOf ds with
      | none => rw [h] at e; cases e
      | some bs2 =>
        rw [h] at e
        cases e
        cases a with
        | str _ k =>
          obtain ⟨h1, h2⟩ := strsOf_rp r h
          rw [h1]
          exact ⟨rfl, fun c hc => (List.mem_cons.mp hc).elim (fun z => by rw [z]; exact k) (h2 c)⟩
    | none => cases e
    | bool _ => cases e
    | int _ => cases e
    | list _ => cases e
    | tuple _ => cases e
    | dict _ => cases e
theorem joinL_mem {S : List Nat} : ∀ {ps : List (List Nat)} {c : Nat}, c ∈ TL.joinL S ps → c ∈ S ∨ ∃ p ∈ ps, c ∈ p
  | [], c, h => by cases h
  | [p], c, h => .inr ⟨p, List.mem_singleton_self p, h⟩
  | p :: q :: r, c, h => by
    have h' : c ∈ p ++ (S ++ TL.joinL S (q :: r)) := h
    rcases List.mem_append.mp h' with h' | h'
    · exact .inr ⟨p, List.mem_cons_self, h'⟩
    · rcases List.mem_append.mp h' with h' | h'
      · exact .inl h'
      · rcases joinL_mem h' with h' | ⟨x, hx, h'⟩
        · exact .inl h'
        · exact .inr ⟨x, List.mem_cons_of_mem _ hx, h'⟩
theorem join_ok {a : Str} {ys : List Str} (ha : PyData.strOk a = true) (h : ∀ b ∈ ys, PyData.strOk b = true) : PyData.strOk (Txt.join a ys) = true := by
  rw [strOk_iff]
  intro c hc
  rw [TL.join_eq] at hc
  have hc' : c ∈ TL.tl (Str.join a ys) := hc
  rw [TL.tl_join] at hc'
  rcases joinL_mem hc' with z | ⟨p, hp, z⟩
  · exact strOk_iff.mp ha c z
  · obtain ⟨b, hb, rfl⟩ := List.mem_map.mp hp
    exact strOk_iff.mp (h b hb) c z
def joinD (a : Str) : PyData → Option OR
  | .list ds => match strsOf ds with
    | none => none
    | some ys => if (ys.map (·.length)).sum + ys.length * a.length ≤ 16777216 then some (.val (.str (Txt.join a ys))) else none
  | .tuple ds => match strsOf ds with
    | none => none
    | some ys => if (ys.map (·.length)).sum + ys.length * a.length ≤ 16777216 then some (.val (.str (Txt.join a ys))) else none
  | _ => none
theorem se_join {a : Str} {j : Nat} {p0 apos pos : Pos} {e : Expr} {f : FE} (ka : PyData.strOk a = true) (he : SE X ct W e f) (hs : starEach [e] X.env = [(false, eval e X.env)] := by rfl)
    (hbase : attributeBase (.Constant (.str a) j p0) "join" X.env (eval (.Constant (.str a) j p0) X.env) = eval (.Constant (.str a) j p0) X.env := by rfl) (hline : (apos.endLine == pos.line) = true := by rfl) :
    SE X ct W (.Call (.Attribute (.Constant (.str a) j p0) "join" apos) [e] [] pos) (u1 (joinD a) f) := by
  refine se_u1 (fun ta ha => pe_imp (pe_join pe_str ha hs hbase hline) fun σ H Q h => ⟨⟨a, rfl⟩, h⟩) he fun F H v d o Q dm b e gv => ?_
  unfold joinD at e
  split at e
  · rename_i ds
    obtain ⟨q, vs, rfl, s, r⟩ := b.list_
    split at e
    · cases e
    · rename_i ys hy
      split at e
      · rename_i hl
        cases e
        obtain ⟨h1, h2⟩ := strsOf_rp r hy
        subst h1
        exact ⟨a, q, ys, rfl, rfl, .inl s, hl, gv.here dm (.str _ (join_ok ka h2))⟩
      · cases e
  · rename_i ds
    obtain ⟨q, vs, rfl, s, r⟩ := b.tup_
    split at e
    · cases e
    · rename_i ys hy
      split at e
      · rename_i hl
        cases e
        obtain ⟨h1, h2⟩ := strsOf_rp r hy
        subst h1
        exact ⟨a, q, ys, rfl, rfl, .inr s, hl, gv.here dm (.str _ (join_ok ka h2))⟩
      · cases e
  · cases e
/-! ### short words for the printed proofs -/
theorem hu64 {k : Nat} {A : Around} (hr : Room k A) : A.units + 64 < cLine := hr.units
theorem hu65 {k : Nat} {A : Around} (hr : Room k A) : A.units + 65 < cLine := by have := hr.un; omega
theorem bo_len : bootBuiltins "len" = some (.builtin "len") := by decide +kernel
theorem bo_all : bootBuiltins "all" = some (.builtin "all") := by decide +kernel
theorem bo_sum : bootBuiltins "sum" = some (.builtin "sum") := by decide +kernel
theorem bo_max : bootBuiltins "max" = some (.builtin "max") := by decide +kernel
theorem bo_min : bootBuiltins "min" = some (.builtin "min") := by decide +kernel
theorem bo_repr : bootBuiltins "repr" = some (.builtin "repr") := by decide +kernel
theorem bo_sorted : bootBuiltins "sorted" = some (.builtin "sorted") := by decide +kernel
theorem bo_isinstance : bootBuiltins "isinstance" = some (.builtin "isinstance") := by decide +kernel
theorem bo_int : bootBuiltins "int" = some (.type "int") := by decide +kernel
theorem bo_str : bootBuiltins "str" = some (.type "str") := by decide +kernel
theorem bo_bool : bootBuiltins "bool" = some (.type "bool") := by decide +kernel
theorem bo_list : bootBuiltins "list" = some (.type "list") := by decide +kernel
theorem bo_tuple : bootBuiltins "tuple" = some (.type "tuple") := by decide +kernel
theorem bo_dict : bootBuiltins "dict" = some (.type "dict") := by decide +kernel
end
end Px
namespace Px
open PySem PySem.Spec PyProof.Rows L2

section
variable {X : Cx} {ct : Gx} {W : WX}
/-! ### try: .. except C as e: .. -/
def unhot (i : Nat) : RS → RS
  | .nx sl st => .nx (sl.set i .non) st
  | .bk sl st => .bk (sl.set i .non) st
  | .ct sl st => .ct (sl.set i .non) st
  | .rt d st => .rt d st
  | _ => .fail
def sTry (i : Nat) (cat : Exn → Option Bool) (g1 g2 : FS) : FS := fun sl st => match g1 sl st with
  | .exc x sl1 st1 => match cat x with
    | some true => unhot i (g2 (sl1.set i (.hot x)) st1)
    | some false => .exc x sl1 st1
    | none => .fail
  | r => r
def Gx.at (g : Gx) (a : Addr) (x : Exn) : Gx := { g with hot := a, hx := x }
def Bs.at (B : Bs) (a : Addr) (x : Exn) : Bs := { B with ct := B.ct.at a x }
theorem SR.hot {B : Bs} {ω : Wd} {H : Hp} {σ : L2.St} {sl : Sls} {st : Sto} (s : SR B ω H σ sl st) (nh : ∀ (i : Nat) (x : Exn), sl[i]? ≠ some (.hot x)) (a : Addr) (x : Exn) : SR (B.at a x) ω H σ sl st :=
  ⟨s.len, s.dom, s.keep, s.newF, s.oldF, s.adl, s.nd, s.iop, s.adn, s.ioc, s.ioc2, s.there, s.prF, s.prA, s.prH, fun i t h => by
    have r := s.slot i t h
    cases t with
    | non => exact r
    | val d => exact r
    | ref n => exact r
    | hot y => exact absurd h (nh i y), s.cell⟩
theorem SR.unhot {B : Bs} {ω : Wd} {H : Hp} {σ : L2.St} {sl : Sls} {st : Sto} {a : Addr} {x : Exn} (s : SR (B.at a x) ω H σ sl st) (nh : ∀ (i : Nat) (x : Exn), sl[i]? ≠ some (.hot x)) : SR B ω H σ sl st :=
  ⟨s.len, s.dom, s.keep, s.newF, s.oldF, s.adl, s.nd, s.iop, s.adn, s.ioc, s.ioc2, s.there, s.prF, s.prA, s.prH, fun i t h => by
    have r := s.slot i t h
    cases t with
    | non => exact r
    | val d => exact r
    | ref n => exact r
    | hot y => exact absurd h (nh i y), s.cell⟩
/-- no slot holds an exception -/
def cold (sl : Sls) : Bool := sl.all fun s => match s with
  | .hot _ => false
  | _ => true
theorem cold_not {sl : Sls} (h : cold sl = true) : ∀ (i : Nat) (x : Exn), sl[i]? ≠ some (.hot x) := fun i x e => by
  have := List.all_eq_true.mp h _ (List.mem_of_getElem? e)
  cases this
/-- as sTry, where the suite always hands back -/
def sTryRet (i : Nat) (cat : Exn → Option Bool) (g1 g2 : FS) : FS := fun sl st => match g1 sl st with
  | .exc x sl1 st1 => match cat x with
    | some true => if cold sl1 = true then (match g2 (sl1.set i (.hot x)) st1 with
      | .rt d st2 => .rt d st2
      | _ => .fail) else .fail
    | some false => .exc x sl1 st1
    | none => .fail
  | r => r
theorem ss_try (i : Nat) (cat : Exn → Option Bool) {x n : Str} {c : Value} {body suite : List Stmt} {b₀ : Stmt} {np pos pos' : Pos} {g1 g2 : FS} (hs : X.stack = X.env :: X.outer) (hf : X.env.frame = some X.env.locals) (hN : X.N.Nodup) (hi : X.N[i]? = some n) (hln : X.env.kindOf n = some .local)
    (hc : Names X x c) (tk : Takes X W) (hcat : ∀ (y : Exn) (C : Addr) (b : Bool), ct.tab y.nm = some C → cat y = some b → PySem.W.exmOne X.K (.ref C) c = some b)
    (hb : ∀ (W' : WX) (pn : List (Addr × Obj)) (xe : Value → Shared → Prop), Takes (X.tr pn xe) W' → PassesOwn (model X.prog X.w) X.A X.env xe → SSs (X.tr pn xe) ct W' body g1)
    (hsu : ∀ (a : Addr) (oe : Obj) (C : Addr) (y : Exn) (pn : List (Addr × Obj)), ct.tab y.nm = some C → Zc (.ref C) none oe → (∃ vs, oe.data = .fields vs) → SSs (X.suite a ((a, oe) :: pn)) (ct.at a y) W0 (b₀ :: suite) g2) :
    SS X ct W (.Try body [.ExceptHandler (some (.Name x np)) (some n) (b₀ :: suite) pos'] [] [] pos) (sTryRet i cat g1 g2) := by
  intro B hB hct sl st
  refine ps_imp (ps_try_as (ts := fun a cls d D σ H => ∃ (y : Exn) (C : Addr) (sl1 : Sls) (st1 : Sto) (ω : Wd), ct.tab y.nm = some C ∧ cls = .ref C ∧ d = none ∧ SR (B.at a y) ω H σ sl1 st1 ∧ OutS (B.at a y) W0 ω H (g2 sl1 st1) D) hs hf hN hi hln hc tk
    (tb := fun W' D σ H => ∃ ω, SR B ω H σ sl st ∧ OutS B W' ω H (g1 sl st) D) (fun W' pn xe tk' hp => hb W' pn xe tk' hp B hB hct sl st) fun a oe cls d pn hz hd => ?_) fun D σ H ⟨ω, s, q⟩ => ⟨ω, s, ?_⟩
  · refine ⟨fun pins s1 σ1 H1 D I ⟨y, C, sl1, st1, ω, h1, h2, h3, s, q⟩ => ?_⟩
    subst h2
    subst h3
    exact (hsu a oe C y pn h1 hz hd (B.at a y) hB (by show B.ct.at a y = _; rw [hct]) sl1 st1).run pins s1 σ1 H1 D I ⟨ω, s, q⟩
  · unfold sTryRet at q
    cases h1 : g1 sl st with
    | fail => rw [h1] at q; exact q
    | nx sl1 st1 => rw [h1] at q; exact q
    | bk sl1 st1 => rw [h1] at q; exact q
    | ct sl1 st1 => rw [h1] at q; exact q
    | rt d st1 => rw [h1] at q; exact q
    | rn d st1 => rw [h1] at q; exact q
    | exc y sl1 st1 =>
      rw [h1] at q
      dsimp only at q
      intro cls d σ1 ω1 H1 e1 s1 r1
      obtain ⟨C, k1, k2, k3, k4⟩ := r1
      subst k2
      subst k3
      have k1' : ct.tab y.nm = some C := by rw [← hct]; exact k1
      cases hk : cat y with
      | none => rw [hk] at q; exact q.elim
      | some b =>
        rw [hk] at q
        refine ⟨b, hcat y C b k1' hk, fun hb1 a ha => ?_, fun hb1 => ?_⟩
        · subst hb1
          dsimp only at q
          by_cases hcold : cold sl1 = true
          · rw [if_pos hcold] at q
            have sh := s1.hot (cold_not hcold) a y
            refine ⟨y, C, sl1.set i (.hot y), st1, ω1, k1', rfl, rfl, sh.set (v := .ref a) ⟨rfl, rfl⟩, ?_⟩
            cases h2 : g2 (sl1.set i (.hot y)) st1 with
            | rt dd st2 =>
              rw [h2] at q
              intro v σ2 ω2 H2 sl2 e2 s2 r2
              refine q v σ2 ω2 H2 (sl2.map fun t => match t with | .hot _ => .non | t => t) (e1.trans ⟨e2.fr, e2.ad, e2.pr⟩) ?_ r2
              refine ⟨by rw [List.length_map]; exact s2.len, s2.dom, s2.keep, s2.newF, s2.oldF, s2.adl, s2.nd, s2.iop, s2.adn, s2.ioc, s2.ioc2, s2.there, s2.prF, s2.prA, s2.prH, fun j t h => ?_, s2.cell⟩
              rw [List.getElem?_map] at h
              cases hj : sl2[j]? with
              | none => rw [hj] at h; cases h
              | some u =>
                rw [hj] at h
                have r := s2.slot j u hj
                cases u with
                | non => cases h; exact r
                | val d => cases h; exact r
                | ref n => cases h; exact r
                | hot z => cases h; exact trivial
            | fail => rw [h2] at q; exact q.elim
            | rn _ _ => rw [h2] at q; exact q.elim
            | nx _ _ => rw [h2] at q; exact q.elim
            | bk _ _ => rw [h2] at q; exact q.elim
            | ct _ _ => rw [h2] at q; exact q.elim
            | exc _ _ _ => rw [h2] at q; exact q.elim
          · rw [if_neg hcold] at q; exact q.elim
        · subst hb1
          exact q (.ref C) none σ1 ω1 H1 e1 s1 ⟨C, k1, rfl, rfl, k4⟩
/-- isinstance(e, C) in the suite -/
theorem se_isE {a D : Addr} {oe : Obj} {pn : List (Addr × Obj)} {y : Exn} {C : Addr} {x z cl : Str} {p p1 p2 pos : Pos} (i : Nat) (isx : Exn → Option Bool) (EC : ExcC X.K D) (hz : Zc (.ref D) none oe) (hf : ∃ vs, oe.data = .fields vs) (hx : x = "isinstance") (hg : Gl X x) (hm : X.mg x = none)
    (hi : X.N[i]? = some z) (hv : Vis X.env.scope z) (gc : Gl X cl) (mc : X.mg cl = some (.ref C)) (hk : ∀ b, isx y = some b → PySem.W.kitOne X.K (.ref D) (.ref C) = some b) (dz : (z == ("__debug__" : Str)) = false := by decide) (cz : (z == ("__classdict__" : Str)) = false := by decide)
    (dc : (cl == ("__debug__" : Str)) = false := by decide) (hs : starEach [.Name z p1, .Name cl p2] X.env = (false, eval (.Name z p1) X.env) :: starEach [.Name cl p2] X.env := by rfl) (hs2 : starEach [.Name cl p2] X.env = (false, eval (.Name cl p2) X.env) :: starEach [] X.env := by rfl)
    (hpl : (backTo pos (starEach [.Name cl p2] X.env)).any (·.1) = false := by rfl) : SE (X.suite a ((a, oe) :: pn)) (ct.at a y) W0 (.Call (.Name x p) [.Name z p1, .Name cl p2] [] pos) (eIsE i isx) := by
  subst hx
  intro B hB hct sl st
  refine pe_imp (pe_callB (X := X.suite a ((a, oe) :: pn)) (call_isE EC hz hf) hg hm bo_isinstance (pa_cons (pe_var hi hv dz cz) (pa_cons (pe_glob gc mc (show RelV (.ref C) (.ref C) from rfl) dc) pa_nil hs2) hs) (by decide) (by decide) hs hpl) fun σ H Q ⟨ω, s, q⟩ => ?_
  unfold eIsE at q
  cases hsl : sl[i]? with
  | none => rw [hsl] at q; exact q.elim
  | some t =>
    rw [hsl] at q
    have r := s.slot i t hsl
    cases t with
    | non => exact q.elim
    | val d => exact q.elim
    | ref n => exact q.elim
    | hot y' =>
      obtain ⟨r1, r2⟩ := r
      rw [hct] at r1 r2
      have r2' : y' = y := r2
      subst r2'
      dsimp only at q
      cases hb : isx y' with
      | none => rw [hb] at q; exact q.elim
      | some b =>
        rw [hb] at q
        exact ⟨.ref a, r1, .ref C, .ref C, b, rfl, fun u hu => hu, hk b hb, q (.bl b) ω H .refl s (.bl b)⟩
end
end Px
/-! PxM: nothing said of what is not reached; slices with a step -/
theorem Px.fm_congr {α β : Type} {f g : α → Option β} : ∀ {l : List α}, (∀ x ∈ l, f x = g x) → l.filterMap f = l.filterMap g
  | [], _ => rfl
  | a :: l, h => by
    rw [List.filterMap_cons, List.filterMap_cons, h a List.mem_cons_self, Px.fm_congr fun x hx => h x (List.mem_cons_of_mem _ hx)]
namespace HT
open PySem PySem.Spec PyProof.Rows
section
variable {prog : Program} {w : World} {A : Around} {E : Value → Shared → Prop} {s : Shared}
theorem sliceApplied_rev {sl : Addr} {vl vu vs : Value} {n : Nat} {Q : Int × Int × Nat → Shared → Prop} (hs : s.heap.IsSliceOf sl vl vu vs) (pl : IsPart vl none) (pu : IsPart vu none) (ps : IsPart vs (some (-1)))
    (h : Q ((n : Int) - 1, -1, n) s) : wpAny (model prog w) A (Builtin.Slice.sliceApplied (.ref sl) (pure (n : Int))) Q E s := by
  obtain ⟨os, hos, hcs, hds⟩ := id hs
  unfold Builtin.Slice.sliceApplied Builtin.Slice.sliceFields
  refine wpAny_bind (wpAny_bind (wpAny_field hos hds (x := vl) rfl (wpAny_bind (wpAny_field hos hds (x := vu) rfl (wpAny_bind (wpAny_field hos hds (x := vs) rfl (wpAny_pure ?_)))))))
  refine wpAny_bind (slicePart_ ps ?_)
  show wpAny _ _ (if ((-1 : Int) == 0) = true then _ else _) _ _ s
  rw [if_neg (by decide)]
  refine wpAny_bind (slicePart_ pl (wpAny_bind (slicePart_ pu (wpAny_bind (wpAny_pure ?_)))))
  show wpAny _ _ (pure ((n : Int) - 1, (-1 : Int), Builtin.Slice.slicePlaces ((n : Int) - 1) (-1) (-1))) _ _ s
  have e : Builtin.Slice.slicePlaces ((n : Int) - 1) (-1) (-1) = n := by
    unfold Builtin.Slice.slicePlaces
    have h1 : ¬ ((-1 : Int) > 0) := by decide
    simp only [h1, if_false]
    by_cases h2 : (n : Int) - 1 > -1
    · rw [if_pos h2, show (- -1 : Int) = 1 by decide, Int.ediv_one]
      omega
    · rw [if_neg h2]; omega
  rw [e]
  exact wpAny_pure h
theorem pick_rev (xs : Array Value) : ((List.range xs.size).filterMap fun (k : Nat) => xs[((xs.size : Int) - 1 + (k : Int) * (-1)).toNat]?).toArray = xs.toList.reverse.toArray := by
  have h := PySem.W.krv_pick xs
  unfold slicePick at h
  rw [PySem.W.krv_bounds] at h
  rw [← h]
  show _ = ((sliceRange ((xs.size : Int) - 1) (-1) (-1)).filterMap (xs[·]?)).toArray
  rw [PySem.W.krv_sliceRange, List.filterMap_map]
  congr 1
  apply Px.fm_congr
  intro k hk
  have := List.mem_range.mp hk
  show xs[((xs.size : Int) - 1 + (k : Int) * (-1)).toNat]? = xs[xs.size - 1 - k]?
  congr 1
  omega
theorem getItem_tuple_rev {t sl : Addr} {items : Array Value} {vl vu vs : Value} {Q : Value → Shared → Prop} (ht : IsTup s.heap t items) (hs : s.heap.IsSliceOf sl vl vu vs) (pl : IsPart vl none) (pu : IsPart vu none) (ps : IsPart vs (some (-1)))
    (h : Q (.ref s.heap.objs.size) { s with heap := s.heap.push { cls := .type "tuple", data := .seq items.toList.reverse.toArray } })
    (hsz : items.size ≤ sizeLine) : wpAny (model prog w) A (getItem (.ref t) (.ref sl)) Q E s := by
  have htake : sizeOk (.seq items.toList.reverse.toArray) := by
    show items.toList.reverse.toArray.size ≤ sizeLine
    rw [List.size_toArray, List.length_reverse, Array.length_toList]
    exact hsz
  obtain ⟨os, hos, hcs, hds⟩ := id hs
  have hTs : s.TypeIs (.ref sl) "slice" := ⟨os, hos, hcs⟩
  unfold getItem
  try with_reducible refine wpAny_holding ?_
  first | refine wpAny_bind (wpAny_pure ?_) | skip
  refine wpAny_bind (wpAny_sequenceKey ht.typeIs (by decide) ?_)
  refine wpAny_bind (wpAny_callSpecial?_slot (name := Str.ofString "__getitem__") ht.typeIs PyProof.Rows.slot_tuple_getitem
    (wpAny_call_entry PyProof.Rows.slot_tuple_getitem ht.typeIs entry_tuple_getitem ?_ (args_tuple_getitem _ _)))
  show wpAny _ _ (Builtin.Tuple.tupleItemsOf (.ref t) >>= _) _ _ s
  refine wpAny_bind (tupleItemsOf_ ht ?_)
  refine wpAny_bind (wpAny_typeOf hTs ?_)
  rw [if_pos (by decide)]
  refine wpAny_bind (sliceApplied_rev hs pl pu ps ?_)
  have hno : ¬ (((((items.size : Int) - 1) == 0 && (-1 : Int) == 1) && items.size == items.size) = true) := by
    intro q
    rw [Bool.and_eq_true, Bool.and_eq_true] at q
    have q1 : (-1 : Int) = 1 := eq_of_beq q.1.2
    omega
  show wpAny _ _ (if ((((items.size : Int) - 1) == 0 && (-1 : Int) == 1) && items.size == items.size) = true then _ else _) _ _ s
  rw [if_neg hno, pick_rev]
  first
    | exact wpAny_bind (m := Builtin.Tuple.tupleExact _) (wpAny_newObj_type (wpAny_pure ⟨_, rfl, wpAny_pure h⟩) htake)
    | exact wpAny_bind (m := Builtin.Tuple.tupleExact _) (wpAny_newObj_type (wpAny_bind (wpAny_pure (wpAny_pure ⟨_, rfl, wpAny_pure h⟩))) htake)
    | exact wpAny_bind (wpAny_bind (m := Builtin.Tuple.tupleExact _) (wpAny_newObj_type (wpAny_pure (wpAny_pure ⟨_, rfl, wpAny_pure h⟩)) htake))
    | exact wpAny_bind (wpAny_bind (m := Builtin.Tuple.tupleExact _) (wpAny_newObj_type (wpAny_pure ⟨_, rfl, wpAny_pure h⟩) htake))
end
end HT
namespace Px
open PySem PySem.Spec PyProof.Rows L2
section
variable {X : Cx} {ct : Gx} {W : WX}

/-! ### what is not reached -/
/-! ### x[lo:hi:st] -/
abbrev R3 := V → Option Int → Option Int → Option Int → Hp → VK → Prop
def SlR3 (X : Cx) (r : R3) : Prop :=
  ∀ (pins : List (Addr × Obj)) (s : Shared) (σ : L2.St) (H : Hp) (x : V) (v vl vu vs : Value) (lo hi st : Option Int) (sl : Addr) (Q : VK), Inv X pins σ H s → RelV x v → s.heap.IsSliceOf sl vl vu vs → IsPart vl lo → IsPart vu hi → IsPart vs st → r x lo hi st H Q →
    ∃ T id, typeLookup (.type T) "__getitem__" = pure (some (.builtin id)) ∧ s.TypeIs v T ∧ wpAny (model X.prog X.w) X.A (getItem v (.ref sl)) (EP X pins σ Q) X.xe s
theorem SlR3.or {r r' : R3} (h : SlR3 X r) (h' : SlR3 X r') : SlR3 X (fun x lo hi st H Q => r x lo hi st H Q ∨ r' x lo hi st H Q) := by
  intro pins s σ H x v vl vu vs lo hi st sl Q I rx hs pl pu ps q
  rcases q with q | q
  · exact h pins s σ H x v vl vu vs lo hi st sl Q I rx hs pl pu ps q
  · exact h' pins s σ H x v vl vu vs lo hi st sl Q I rx hs pl pu ps q
def tSl3 (r : R3) (te : TE) (tl th ts : TO) : TE := fun σ H Q => te σ H fun x H1 => tl σ H1 fun l H2 => th σ H2 fun u H3 => ts σ H3 fun o H4 => r x l u o H4 Q
theorem pe_slice3 {r : R3} {e se : Expr} {lo hi : Option Expr} {te : TE} {tl th ts : TO} {pos p2 : Pos} (hr : SlR3 X r) (he : PE X e te) (hl : PO X lo tl) (hu : PO X hi th) (hst : PO X (some se) ts) : PE X (.Subscript e (.Slice lo hi (some se) p2) pos) (tSl3 r te tl th ts) := by
  refine ⟨fun pins s σ H Q I h => ?_⟩
  refine Subscript_ (thn (he.run pins s σ H _ I h) fun v s1 ⟨x, H1, I1, r1, q1⟩ => ?_)
  refine wpAny_Slice (thn (hl.run pins s1 σ H1 _ I1 q1) fun vl s2 ⟨l, H2, I2, pl, q2⟩ => thn (hu.run pins s2 σ H2 _ I2 q2) fun vu s3 ⟨u, H3, I3, pu, q3⟩ => thn (hst.run pins s3 σ H3 _ I3 q3) fun vs s4 ⟨o, H4, I4, ps, q4⟩ => ?_)
  have I5 : Inv X pins σ H4 { s4 with heap := s4.heap.push { cls := .type "slice", data := .fields #[vl, vu, vs] } } := I4.kept (t' := s4.toks) fun b ob q => Heap.get?_push_of_some _ q
  obtain ⟨T, id, hT, ht, hg⟩ := hr pins { s4 with heap := s4.heap.push { cls := .type "slice", data := .fields #[vl, vu, vs] } } σ H4 x v vl vu vs l u o s4.heap.objs.size Q I5 r1 (Heap.IsSliceOf.new ..) pl pu ps q4
  show wpAny (model X.prog X.w) X.A (subscriptTail e (.Slice lo hi (some se) p2) v (.ref s4.heap.objs.size)) (EP X pins σ Q) X.xe { s4 with heap := s4.heap.push { cls := .type "slice", data := .fields #[vl, vu, vs] } }
  exact tail_any (ops := [v, .ref s4.heap.objs.size]) ht hT hg (by with_unfolding_all rfl)
def pickL {α : Type} (xs : List α) (lo hi st : Option Int) : List α :=
  (sliceRange (sliceBounds lo hi st xs.length).1 (sliceBounds lo hi st xs.length).2.1 (sliceBounds lo hi st xs.length).2.2).filterMap (xs[·]?)
theorem vals_get : ∀ {xs : List V} {us : List Value} {k : Nat} {x : V}, Vals xs us → xs[k]? = some x → ∃ u, us[k]? = some u ∧ RelV x u
  | _, _, _, _, .nil, e => by simp at e
  | _, _, 0, _, .cons a _, e => by simp at e; subst e; exact ⟨_, rfl, a⟩
  | _, _, k + 1, x, .cons _ r, e => by
    obtain ⟨v, h1, h2⟩ := vals_get (k := k) (x := x) r (by simpa using e)
    exact ⟨v, by simpa using h1, h2⟩
theorem vals_pickN {xs : List V} {us : List Value} (r : Vals xs us) : ∀ (ks : List Nat), Vals (ks.filterMap (xs[·]?)) (ks.filterMap (us[·]?))
  | [] => .nil
  | k :: ks => by
    have ih := vals_pickN r ks
    have hl := r.length
    by_cases hk : k < xs.length
    · obtain ⟨u, h1, h2⟩ := vals_get r (List.getElem?_eq_getElem hk)
      rw [List.filterMap_cons_some (List.getElem?_eq_getElem hk), List.filterMap_cons_some h1]
      exact .cons h2 ih
    · rw [List.filterMap_cons_none (List.getElem?_eq_none (by omega)), List.filterMap_cons_none (List.getElem?_eq_none (by omega))]
      exact ih
theorem rp_pickN {K : PySem.W.Frag} {F : Addr → Prop} {H : Hp} {xs : List V} {us : List PyData} (r : RpA K F H xs us) : ∀ (ks : List Nat), RpA K F H (ks.filterMap (xs[·]?)) (ks.filterMap (us[·]?))
  | [] => .nil
  | k :: ks => by
    have ih := rp_pickN r ks
    have hl := r.length
    by_cases hk : k < us.length
    · obtain ⟨u, h1, h2⟩ := r.get (List.getElem?_eq_getElem hk)
      rw [List.filterMap_cons_some h1, List.filterMap_cons_some (List.getElem?_eq_getElem hk)]
      exact .cons h2 ih
    · rw [List.filterMap_cons_none (List.getElem?_eq_none (by omega)), List.filterMap_cons_none (List.getElem?_eq_none (by omega))]
      exact ih
theorem slicePick_eq (us : List Value) (lo hi st : Option Int) : slicePick us.toArray lo hi st = (pickL us lo hi st).toArray := by
  unfold slicePick pickL
  rw [List.size_toArray]
  congr 1
  apply Px.fm_congr
  intro k _
  rw [List.getElem?_toArray]
def r3L (K : PySem.W.Frag) : R3 := fun x lo hi st H Q => ∃ a xs, x = .ref a ∧ SqL K H a xs ∧ st ≠ some 0 ∧ ∀ p, H p = none → Q (.ref p) (upd H p (.lst (pickL xs lo hi st)))
theorem sl3_list : SlR3 X (r3L X.K) := by
  intro pins s σ H x v vl vu vs lo hi st sl Q I rx hs pl pu ps h
  obtain ⟨a, xs, rfl, hx, h0, q⟩ := h
  cases rx
  obtain ⟨its, r, ht, hz⟩ := I.list hx
  have hlen := r.length
  have hsz : its.toArray.size ≤ sizeLine := by rw [List.size_toArray]; omega
  refine ⟨"list", _, PySem.slot_list_getitem.lookup, ht.isList.typeIs, ?_⟩
  refine wpAny_getItem_list_slice ht.isList hs pl pu ps h0 ?_ hsz
  have hpl := slicePick_size_le its.toArray lo hi st
  have rr : Vals (pickL xs lo hi st) (slicePick its.toArray lo hi st).toList := by
    rw [slicePick_eq]
    unfold pickL
    rw [hlen]
    exact vals_pickN r _
  refine ⟨.ref _, _, I.laid (t' := s.toks) (o := .lst (pickL xs lo hi st)) (fun b ob q => Heap.get?_push_of_some _ q) (Nat.le_refl _) ?_, rfl, q _ (I.hok.fresh (Nat.le_refl _))⟩
  refine ⟨?_, _, 0, rr, Heap.get?_push_size _ rfl⟩
  rw [rr.length, Array.length_toList]
  omega
def r3T (K : PySem.W.Frag) : R3 := fun x lo hi st H Q => lo = none ∧ hi = none ∧ st = some (-1) ∧ ∃ a xs, x = .ref a ∧ SqT K H a xs ∧ NewT H xs.reverse Q
theorem sl3_tup : SlR3 X (r3T X.K) := by
  intro pins s σ H x v vl vu vs lo hi st sl Q I rx hs pl pu ps h
  obtain ⟨rfl, rfl, rfl, a, xs, rfl, hx, q⟩ := h
  cases rx
  obtain ⟨its, r, ht, hz⟩ := I.tuple hx
  refine ⟨"tuple", _, PyProof.Rows.slot_tuple_getitem.lookup, ht.typeIs, ?_⟩
  refine HT.getItem_tuple_rev ht hs pl pu ps ?_ (by rw [List.size_toArray, ← r.length]; exact hz)
  obtain ⟨h1, g1, d1, t1, o1⟩ := s
  exact new_tup I r.reverse (by rw [List.length_reverse]; exact hz) q t1
def revS (z : Str) : Str := ⟨z.cps.toList.reverse.toArray⟩
def r3S : R3 := fun x lo hi st H Q => lo = none ∧ hi = none ∧ st = some (-1) ∧ ∃ z, x = .str z ∧ z.length ≤ sizeLine ∧ Q (.str (revS z)) H
theorem sl3_str : SlR3 X r3S := by
  intro pins s σ H x v vl vu vs lo hi st sl Q I rx hs pl pu ps h
  obtain ⟨rfl, rfl, rfl, z, rfl, hz, q⟩ := h
  obtain ⟨t, rfl⟩ := rx
  obtain ⟨os, hos, hcs, hds⟩ := hs
  obtain ⟨l, rfl, el⟩ := IsPart.raw pl
  obtain ⟨u, rfl, eu⟩ := IsPart.raw pu
  obtain ⟨o, rfl, eo⟩ := IsPart.raw ps
  refine ⟨"str", _, F.slot_str_getitem.lookup, typeIs_str _ _ _, ?_⟩
  refine wpAny_getItem_str_slice (l := l) (u := u) (st := o) ⟨os, hos, hcs, hds⟩ (by rw [eo]; rfl) ?_
  unfold sliceMade slicePicked
  rw [el, eu, eo]
  have e : ((Builtin.Str.strSliceIndices none none ((some (-1 : Int)).getD 1) z.length).filterMap (z.cps[·]?)).toArray = z.cps.toList.reverse.toArray := by
    show ((sliceRange ((z.cps.size : Int) - 1) (-1) (-1)).filterMap (z.cps[·]?)).toArray = _
    rw [PySem.W.krv_sliceRange, PySem.W.krv_range, List.filterMap_reverse, PySem.W.krv_all]
  have hno : ¬ ((((some (-1 : Int)).getD 1) == 1 && (Builtin.Str.strSliceIndices none none ((some (-1 : Int)).getD 1) z.length).length == z.length) = true) := by
    intro q
    rw [Bool.and_eq_true] at q
    exact absurd q.1 (by decide)
  rw [if_neg hno, e]
  have hl : (revS z).length ≤ sizeLine := by
    show z.cps.toList.reverse.toArray.size ≤ _
    rw [List.size_toArray, List.length_reverse, Array.length_toList]
    exact hz
  exact ⟨hl, .str _, H, I.tok _, ⟨_, rfl⟩, q⟩
def cutD3 (lo hi st : Option Int) : PyData → Option OR
  | .list ds => if st = some 0 then none else some (.new (.lst (pickL ds lo hi st)))
  | .tuple ds => if lo = none ∧ hi = none ∧ st = some (-1) then some (.val (.tuple ds.reverse)) else none
  | .str s => if lo = none ∧ hi = none ∧ st = some (-1) ∧ s.length ≤ Lim then some (.val (.str (revS s))) else none
  | _ => none
def eCut3 (f : FE) (l h o : FO) : FE := fun sl st => match f sl st with
  | .fail => .fail
  | .exc x st1 => .exc x st1
  | .ok ev st1 => match l sl st1 with
    | .fail => .fail
    | .exc x st2 => .exc x st2
    | .ok lo st2 => match h sl st2 with
      | .fail => .fail
      | .exc x st3 => .exc x st3
      | .ok hi st3 => match o sl st3 with
        | .fail => .fail
        | .exc x st4 => .exc x st4
        | .ok so st4 => match ev.dat st4 with
          | none => .fail
          | some d => match cutD3 lo hi so d with
            | none => .fail
            | some r => .ok r.ev st4
theorem se_cut3 {e se : Expr} {lo hi : Option Expr} {f : FE} {l h o : FO} {pos p2} (he : SE X ct W e f) (hl : SO X ct W lo l) (hh : SO X ct W hi h) (ho : SO X ct W (some se) o) : SE X ct W (.Subscript e (.Slice lo hi (some se) p2) pos) (eCut3 f l h o) := by
  intro B hB hc sl st
  refine pe_imp (pe_slice3 (SlR3.or sl3_list (SlR3.or sl3_tup sl3_str)) (he.all hB hc) (hl B hB hc) (hh B hB hc) (ho B hB hc)) fun σ H Q ⟨ω, s, q⟩ => ⟨sl, st, ω, s, ?_⟩
  unfold eCut3 at q
  cases hf : f sl st with
  | fail => rw [hf] at q; exact q
  | exc x st1 => rw [hf] at q; exact q
  | ok ev st1 =>
    rw [hf] at q
    dsimp only at q
    intro v ω1 H1 x1 s1 hv
    obtain ⟨ω2, x2, s2, hv2⟩ := VR.soft s1 hv
    have x12 := x1.trans x2
    refine ⟨sl, st1, ω2, s2, ?_⟩
    cases hfl : l sl st1 with
    | fail => rw [hfl] at q; exact q
    | exc x st2 => rw [hfl] at q; exact fun cls d ω' H' e s' => q cls d ω' H' (x12.trans e) s'
    | ok lo' st2 =>
      rw [hfl] at q
      dsimp only at q
      intro ω3 H3 x3 s3
      have x13 := x12.trans x3
      refine ⟨sl, st2, ω3, s3, ?_⟩
      cases hfh : h sl st2 with
      | fail => rw [hfh] at q; exact q
      | exc x st3 => rw [hfh] at q; exact fun cls d ω' H' e s' => q cls d ω' H' (x13.trans e) s'
      | ok hi' st3 =>
        rw [hfh] at q
        dsimp only at q
        intro ω4 H4 x4 s4
        have x14 := x13.trans x4
        refine ⟨sl, st3, ω4, s4, ?_⟩
        cases hfo : o sl st3 with
        | fail => rw [hfo] at q; exact q
        | exc x st4 => rw [hfo] at q; exact fun cls d ω' H' e s' => q cls d ω' H' (x14.trans e) s'
        | ok so st4 =>
          rw [hfo] at q
          dsimp only at q
          intro ω5 H5 x5 s5
          have hv5 := VR.up x5 (VR.up x4 (VR.up x3 hv2))
          cases hd : ev.dat st4 with
          | none => rw [hd] at q; exact q.elim
          | some d =>
            rw [hd] at q
            dsimp only at q
            have b := VR.bp s5 hv5 (by rw [EV.soft_dat]; exact hd)
            cases hg : cutD3 lo' hi' so d with
            | none => rw [hg] at q; exact q.elim
            | some o =>
              rw [hg] at q
              have gv := Give.of s5 (OutE.up q (x14.trans x5))
              have dm := s5.dom
              rw [hB] at b gv
              unfold cutD3 at hg
              split at hg
              · rename_i ds0
                split at hg
                · cases hg
                · rename_i h0
                  cases hg
                  obtain ⟨a, vs, rfl, sq, r⟩ := b.list_
                  refine .inl ⟨a, vs, rfl, sq, h0, fun p hp => ?_⟩
                  have rr : RpA X.K ω5.F H5 (pickL vs lo' hi' so) (pickL ds0 lo' hi' so) := by
                    unfold pickL
                    rw [r.length]
                    exact rp_pickN r _
                  exact gv.lst dm hp rr
              · split at hg
                · rename_i h0
                  obtain ⟨h1, h2, h3⟩ := h0
                  cases hg
                  cases b with
                  | rp t =>
                    cases t with
                    | tup fz r => exact .inr (.inl ⟨h1, h2, h3, _, _, rfl, fz.sq, NewT.of dm gv r.reverse⟩)
                · cases hg
              · rename_i z
                split at hg
                · rename_i h0
                  obtain ⟨h1, h2, h3, hl⟩ := h0
                  cases hg
                  have k := b.ok_
                  cases b.str_
                  refine .inr (.inr ⟨h1, h2, h3, z, rfl, Nat.le_trans hl lim_line, gv.here dm (.str _ (strOk_sub k fun c hc => ?_))⟩)
                  unfold revS at hc
                  simp only [List.toList_toArray, List.mem_reverse] at hc
                  exact hc
                · cases hg
              · cases hg
end
end Px
/-! PxN: the text of data (repr), str of an int -/
namespace Px
open PySem PySem.Spec PyProof.Rows L2

/-! ### repr -/
section
variable {prog : Program} {w : World} {K : PySem.W.Frag} {F : Addr → Prop} {H : Hp} {h : Heap}
/-- what the heap tells of what is frozen -/
structure HeapOf (prog : Program) (w : World) (K : PySem.W.Frag) (H : Hp) (h : Heap) : Prop where
  lst : ∀ a xs, SqL K H a xs → ∃ its : List Value, Vals xs its ∧ ∃ o n, h.get? a = some o ∧ o.cls = .type "list" ∧ o.data = .seq its.toArray n
  tup : ∀ a xs, SqT K H a xs → ∃ its : List Value, Vals xs its ∧ ∃ o n, h.get? a = some o ∧ o.cls = .type "tuple" ∧ o.data = .seq its.toArray n
  dic : ∀ a xs, Rd H a (.dK xs) → (a == sysModules) = false ∧ ∃ vs, KV xs vs ∧ h.DictOf (mixKind prog w) a vs
/-- the text of a value, and what it reads -/
structure Told (prog : Program) (w : World) (h : Heap) (u : Value) (d : PyData) : Prop where
  reads : ∃ as, Reads h u d as
  text : d.showable = true → d.shown.length ≤ sizeLine → ∃ bs, ReadAtMost h d.depth bs ∧ ReprK prog w bs h d.depth u d.shown
  shows : d.showable = true → d.shown.length ≤ sizeLine → ∀ a, u = .ref a → ∃ T idr, ShowsBy prog w h a d T idr
structure ToldA (prog : Program) (w : World) (h : Heap) (us : List Value) (ds : List PyData) : Prop where
  reads : ∃ as, ReadsAll h us ds as
  text : PyData.showableAll ds = true → (∀ t ∈ PyData.shownAll ds, t.length ≤ sizeLine) → ∃ bs, ReadAtMost h (PyData.depthAll ds) bs ∧ ReprAllK prog w bs h (PyData.depthAll ds) us (PyData.shownAll ds)
theorem ToldA.nil : ToldA prog w h [] [] := ⟨⟨[], .nil⟩, fun _ _ => ⟨[], (fun _ h => nomatch h), by simp only [PyData.shownAll]; exact .nil⟩⟩
theorem ToldA.cons {u : Value} {us : List Value} {d : PyData} {ds : List PyData} (x : Told prog w h u d) (y : ToldA prog w h us ds) : ToldA prog w h (u :: us) (d :: ds) where
  reads := let ⟨_, a⟩ := x.reads; let ⟨_, b⟩ := y.reads; ⟨_, .cons a b⟩
  text := fun hs hz => by
    simp only [PyData.showableAll, Bool.and_eq_true] at hs
    simp only [PyData.shownAll, List.mem_cons] at hz
    obtain ⟨b1, r1, k1⟩ := x.text hs.1 (hz _ (.inl rfl))
    obtain ⟨b2, r2, k2⟩ := y.text hs.2 fun t ht => hz t (.inr ht)
    simp only [PyData.depthAll, PyData.shownAll]
    exact ⟨b1 ++ b2, (r1.mono (Nat.le_max_left _ _)).append (r2.mono (Nat.le_max_right _ _)), .cons ((k1.more fun b m => List.mem_append_left _ m).level_le (Nat.le_max_left _ _)) (k2.more_le (fun b m => List.mem_append_right _ m) (Nat.le_max_right _ _))⟩
theorem told_key {k : Key} {u : Value} (e : (mixKind prog w).is k u = true) : Told prog w h u (keyD k) := by
  rcases keyIs_shape e with ⟨i, t, rfl, rfl⟩ | ⟨x, t, rfl, rfl⟩
  · exact ⟨⟨[], .int i t⟩, fun hs _ => ⟨[], (fun _ h => nomatch h), .of_is (ReprIs.int t (by simpa [keyD, PyData.showable] using hs)) _ _ _⟩, fun _ _ a e => nomatch e⟩
  · exact ⟨⟨[], .str x t⟩, fun _ hz => ⟨[], (fun _ h => nomatch h), .of_is (ReprIs.str x t (by simpa only [keyD, PyData.shown] using hz)) _ _ _⟩, fun _ _ a e => nomatch e⟩
mutual
theorem Rp.told (hp : HeapOf prog w K H h) : ∀ (d : PyData) (v : V) (u : Value), Rp K F H v d → RelV v u → Told prog w h u d
  | .none, _, _, r, e => by
    cases r; cases e
    exact ⟨⟨[], .none⟩, fun _ _ => ⟨[], (fun _ h => nomatch h), by simp only [PyData.shown]; exact .of_is ReprIs.none _ _ _⟩, fun _ _ a e => nomatch e⟩
  | .bool b, _, _, r, e => by
    cases r; cases e
    exact ⟨⟨[], .bool b⟩, fun _ _ => ⟨[], (fun _ h => nomatch h), by simp only [PyData.shown]; exact .of_is (ReprIs.bool b) _ _ _⟩, fun _ _ a e => nomatch e⟩
  | .int i, _, _, r, e => by
    cases r
    obtain ⟨t, rfl⟩ := e
    exact told_key (k := .inl i) (show Value.isInt i (.int i t) = true by simp [Value.isInt])
  | .str x, _, _, r, e => by
    cases r
    obtain ⟨t, rfl⟩ := e
    exact told_key (k := .inr x) (show Value.isStrOf x (.str x t) = true by simp [Value.isStrOf])
  | .list ds, _, _, r, e => by
    cases r with
    | lst f q =>
      cases e
      rename_i a xs
      obtain ⟨its, rv, o, n, h1, h2, h3⟩ := hp.lst _ _ f.sq
      have A := RpA.told hp ds xs its q rv
      obtain ⟨as, ra⟩ := A.reads
      have rd : Reads h (.ref a) (.list ds) _ := .list h1 h2 h3 ra
      have key : PyData.showable (.list ds) = true → (PyData.shown (.list ds)).length ≤ sizeLine → (listText (PyData.shownAll ds)).length ≤ sizeLine ∧ ∃ bs, ReadAtMost h (PyData.depthAll ds) bs ∧ a ∉ bs ∧ ReprAllK prog w bs h (PyData.depthAll ds) its (PyData.shownAll ds) := fun hs hz => by
        have hz' : (listText (PyData.shownAll ds)).length ≤ sizeLine := by simpa only [PyData.shown] using hz
        obtain ⟨bs, rb, kb⟩ := A.text (by simpa [PyData.showable] using hs) fun t ht => Nat.le_trans (listText_mem_le ht) hz'
        exact ⟨hz', bs, rb, not_mem_of_deeper rd (by simp only [PyData.depth]; omega) rb, kb⟩
      refine ⟨⟨_, rd⟩, fun hs hz => ?_, fun hs hz b e => ?_⟩
      rotate_left
      · cases e
        obtain ⟨hz', bs, rb, hna, kb⟩ := key hs hz
        refine ⟨"list", "list.__repr__", PySem.F.slot_list_repr.toG, PySem.F.slot_list_str, PySem.F.slot_list_format, fun s k => ⟨o, k _ _ h1, h2⟩, fun B E s Q hg hu k hQ => ?_⟩
        simp only [PyData.depth] at hu
        simp only [PyData.shown] at hQ
        cases its with
        | nil =>
          cases ra
          rw [show PyData.shownAll [] = [] by simp only [PyData.shownAll], listText_nil] at hQ
          exact call_list_repr_empty ⟨o, k _ _ h1, h2⟩ (k _ _ h1) h3 (hQ s.heap _ _ fun _ _ e => e)
        | cons x l => exact call_list_reprK h1 h2 h3 hna (by simpa using kb.length_eq) (fun i y e => kb.item i y (by simpa using e)) hg (fun b _ => Clear.nil b) hu k hQ hz'
      obtain ⟨hz', bs, rb, hna, kb⟩ := key hs hz
      refine ⟨a :: bs, ReadAtMost.cons rd (by simp only [PyData.depth]; omega) rb, ?_⟩
      simp only [PyData.depth, PyData.shown]
      cases its with
      | nil =>
        cases ra
        rw [show PyData.shownAll [] = [] by simp only [PyData.shownAll], listText_nil]
        exact ReprK.listEmpty h1 h2 h3
      | cons x l => exact ReprK.list h1 h2 h3 hna (by simpa using kb.length_eq) fun i y e => kb.item i y (by simpa using e)
  | .tuple ds, _, _, r, e => by
    cases r with
    | tup f q =>
      cases e
      rename_i a xs
      obtain ⟨its, rv, o, n, h1, h2, h3⟩ := hp.tup _ _ f.sq
      have A := RpA.told hp ds xs its q rv
      obtain ⟨as, ra⟩ := A.reads
      have rd : Reads h (.ref a) (.tuple ds) _ := .tuple h1 h2 h3 ra
      have key : PyData.showable (.tuple ds) = true → (PyData.shown (.tuple ds)).length ≤ sizeLine → (tupleText (PyData.shownAll ds)).length ≤ sizeLine ∧ ∃ bs, ReadAtMost h (PyData.depthAll ds) bs ∧ a ∉ bs ∧ ReprAllK prog w bs h (PyData.depthAll ds) its (PyData.shownAll ds) := fun hs hz => by
        have hz' : (tupleText (PyData.shownAll ds)).length ≤ sizeLine := by simpa only [PyData.shown] using hz
        obtain ⟨bs, rb, kb⟩ := A.text (by simpa [PyData.showable] using hs) fun t ht => Nat.le_trans (tupleText_mem_le ht) hz'
        exact ⟨hz', bs, rb, not_mem_of_deeper rd (by simp only [PyData.depth]; omega) rb, kb⟩
      refine ⟨⟨_, rd⟩, fun hs hz => ?_, fun hs hz b e => ?_⟩
      rotate_left
      · cases e
        obtain ⟨hz', bs, rb, hna, kb⟩ := key hs hz
        refine ⟨"tuple", "tuple.__repr__", PySem.F.slot_tuple_repr, PySem.F.slot_tuple_str, PySem.F.slot_tuple_format, fun s k => ⟨o, k _ _ h1, h2⟩, fun B E s Q hg hu k hQ => ?_⟩
        simp only [PyData.depth] at hu
        simp only [PyData.shown] at hQ
        exact call_tuple_reprK h1 h2 h3 hna kb hg (fun b _ => Clear.nil b) hu k hQ hz'
      obtain ⟨hz', bs, rb, hna, kb⟩ := key hs hz
      refine ⟨a :: bs, ReadAtMost.cons rd (by simp only [PyData.depth]; omega) rb, ?_⟩
      simp only [PyData.depth, PyData.shown]
      exact ReprK.tuple h1 h2 h3 hna kb
  | .dict ds, _, _, r, e => by
    cases r with
    | dic f rd0 q =>
      cases e
      rename_i a xs
      obtain ⟨hsys, vs, kv, o, es, ep, h1, ⟨h2, _, _⟩, h3, _, prs, _⟩ := hp.dic _ _ rd0
      obtain ⟨A, A'⟩ := RpD.told hp ds xs vs es.toList q kv prs
      obtain ⟨as, ra⟩ := A.reads
      obtain ⟨as', ra'⟩ := A'.reads
      have rd : Reads h (.ref a) (.dict ds) _ := .dict h1 h2 h3 ra ra'
      have key : PyData.showable (.dict ds) = true → (PyData.shown (.dict ds)).length ≤ sizeLine → (dictText (PyData.shownKv ds)).length ≤ sizeLine ∧ ∃ bs, ReadAtMost h (PyData.depthKv ds) bs ∧ a ∉ bs ∧ ReprEntriesK prog w bs h (PyData.depthKv ds) es.toList (PyData.shownKv ds) := fun hs hz => by
        have hz' : (dictText (PyData.shownKv ds)).length ≤ sizeLine := by simpa only [PyData.shown] using hz
        obtain ⟨s1, s2⟩ := PyData.showableKv_split ds (by simpa [PyData.showable] using hs)
        obtain ⟨b1, r1, k1⟩ := A.text s1 fun t ht => let ⟨p, m, l⟩ := PyData.shownKv_key_le ds t ht; Nat.le_trans l (Nat.le_trans (dictText_mem_le m) hz')
        obtain ⟨b2, r2, k2⟩ := A'.text s2 fun t ht => let ⟨p, m, l⟩ := PyData.shownKv_val_le ds t ht; Nat.le_trans l (Nat.le_trans (dictText_mem_le m) hz')
        have rb : ReadAtMost h (PyData.depthKv ds) (b1 ++ b2) := (r1.mono (PyData.depthAll_keys_le ds)).append (r2.mono (PyData.depthAll_vals_le ds))
        refine ⟨hz', b1 ++ b2, rb, not_mem_of_deeper rd (by simp only [PyData.depth]; omega) rb, ?_⟩
        rw [PyData.shownKv_eq]
        exact ReprEntriesK.of_two _ _ _ (k1.more_le (fun b m => List.mem_append_left _ m) (PyData.depthAll_keys_le ds)) (k2.more_le (fun b m => List.mem_append_right _ m) (PyData.depthAll_vals_le ds))
      refine ⟨⟨_, rd⟩, fun hs hz => ?_, fun hs hz b e => ?_⟩
      · obtain ⟨hz', bs, rb, hna, kb⟩ := key hs hz
        refine ⟨a :: bs, ReadAtMost.cons rd (by simp only [PyData.depth]; omega) rb, ?_⟩
        simp only [PyData.depth, PyData.shown]
        exact ReprK.dict h1 h2 h3 hsys hna kb
      · cases e
        obtain ⟨hz', bs, rb, hna, kb⟩ := key hs hz
        refine ⟨"dict", "dict.__repr__", PySem.F.slot_dict_repr, PySem.F.slot_dict_str, PySem.F.slot_dict_format, fun s k => ⟨o, k _ _ h1, h2⟩, fun B E s Q hg hu k hQ => ?_⟩
        simp only [PyData.depth] at hu
        simp only [PyData.shown] at hQ
        exact call_dict_reprK h1 h2 h3 hsys hna kb hg (fun b _ => Clear.nil b) hu k hQ hz'
theorem RpA.told (hp : HeapOf prog w K H h) : ∀ (ds : List PyData) (vs : List V) (us : List Value), RpA K F H vs ds → Vals vs us → ToldA prog w h us ds
  | [], _, _, r, e => by cases r; cases e; exact .nil
  | d :: ds, _, _, r, e => by
    cases r with
    | cons a b =>
      cases e with
      | cons x y => exact .cons (Rp.told hp d _ _ a x) (RpA.told hp ds _ _ b y)
theorem RpD.told (hp : HeapOf prog w K H h) : ∀ (ds : List (PyData × PyData)) (xs : List (Key × V)) (vs : List (Key × Value)) (es : List DictEntry), RpD K F H xs ds → KV xs vs → Pairs (mixKind prog w) es vs →
    ToldA prog w h (es.map (·.key)) (ds.map (·.1)) ∧ ToldA prog w h (es.map (·.val)) (ds.map (·.2))
  | [], _, _, _, r, e, p => by cases r; cases e; cases p; exact ⟨.nil, .nil⟩
  | (k, d) :: ds, _, _, _, r, e, p => by
    cases r with
    | cons a b =>
      cases e with
      | cons x y =>
        cases p with
        | cons p1 p2 p3 =>
          obtain ⟨z1, z2⟩ := RpD.told hp ds _ _ _ b y p3
          obtain ⟨x1, x2⟩ := x
          refine ⟨.cons (told_key ?_) z1, .cons ?_ z2⟩
          · dsimp only at x1 ⊢
            rw [x1]; exact p1
          · dsimp only at x2 ⊢
            rw [p2]; exact Rp.told hp d _ _ a x2
end
end
theorem Bp.rp_ {K : PySem.W.Frag} {F : Addr → Prop} {H : Hp} {v : V} {d : PyData} (b : Bp K F H v d) : ∃ F', Rp K F' H v d := by
  cases b with
  | rp h => exact ⟨F, h⟩
  | @lst p vs xs h r => exact ⟨fun a => F a ∨ a = p, .lst (.inl ⟨.inr rfl, .of h⟩) (r.up fun a h => ⟨.inl h, rfl⟩)⟩
  | @dic p vs xs h r => exact ⟨fun a => F a ∨ a = p, .dic (.inr rfl) (.of h) (r.up fun a h => ⟨.inl h, rfl⟩)⟩
section
variable {X : Cx} {ct : Gx} {W : WX}
theorem heap_of {pins : List (Addr × Obj)} {σ : L2.St} {H : Hp} {s : Shared} (I : Inv X pins σ H s) : HeapOf X.prog X.w X.K H s.heap where
  lst := fun a xs h => by
    obtain ⟨its, r, ht, _⟩ := I.list h
    obtain ⟨o, h1, h2, n, h3⟩ := ht.isList
    exact ⟨its, r, o, n, h1, h2, h3⟩
  tup := fun a xs h => by
    obtain ⟨its, r, ⟨o, h1, h2, n, h3⟩, _⟩ := I.tuple h
    exact ⟨its, r, o, n, h1, h2, h3⟩
  dic := fun a xs h => (dk_rd I.hok h).2
def reprD : List PyData → Option OR
  | [d] => if d.showable = true ∧ d.shown.length ≤ Lim ∧ d.depth ≤ 60 ∧ PyData.strOk d.shown = true then some (.val (.str d.shown)) else none
  | _ => none
theorem cr_repr (hg : X.A.guards = some []) (hu : X.A.units + 64 < cLine) : CallR X (.builtin "repr") (fun xs H Q => ∃ x F d, xs = [x] ∧ Bp X.K F H x d ∧ d.showable = true ∧ d.shown.length ≤ sizeLine ∧ d.depth ≤ 60 ∧ Q (.str d.shown) H) := by
  intro pins s σ H xs us Q I r h
  obtain ⟨x, F, d, rfl, b, hs, hz, hd, q⟩ := h
  obtain ⟨u, rfl, ru⟩ := vals1 r
  obtain ⟨F', b⟩ := b.rp_
  have T := Rp.told (heap_of I) d x u b ru
  have fin : ∀ a, u = .ref a → wpAny (model X.prog X.w) X.A (call (.builtin "repr") [u]) (EP X pins σ Q) X.xe s := fun a e => by
    obtain ⟨Ty, idr, S⟩ := T.shows hs hz a e
    rw [e]
    exact call_repr_slot (by omega) (S.typeIs s fun _ _ e => e) S.slotRepr (S.call X.A.in1 _ s _ hg (by show X.A.units + 1 + d.depth < cLine; omega) (fun _ _ e => e) fun h' u tk hk => ⟨_, _, rfl, .str _, H, I.kept hk, ⟨_, rfl⟩, q⟩)
  cases d with
  | none =>
    cases b; cases ru
    exact PySem.P.repr_of_none ⟨.str _, H, I.tok _, ⟨_, rfl⟩, by simpa only [PyData.shown] using q⟩
  | bool k =>
    cases b; cases ru
    exact PySem.P.repr_of_bool ⟨.str _, H, I.tok _, ⟨_, rfl⟩, by simpa only [PyData.shown] using q⟩
  | int i =>
    cases b
    obtain ⟨t, rfl⟩ := ru
    exact PySem.P.repr_of_int (by simpa [PyData.showable] using hs) ⟨.str _, H, I.tok _, ⟨_, rfl⟩, by simpa only [PyData.shown] using q⟩
  | str x =>
    cases b
    obtain ⟨t, rfl⟩ := ru
    exact PySem.P.repr_of_str ⟨.str _, H, I.tok _, ⟨_, rfl⟩, by simpa only [PyData.shown] using q⟩ (by simpa only [PyData.shown] using hz)
  | list ds => cases b; exact fin _ ru
  | tuple ds => cases b; exact fin _ ru
  | dict ds => cases b; exact fin _ ru
theorem call_reprA (hg : X.A.guards = some []) (hu : X.A.units + 64 < cLine) : CallD X (.builtin "repr") reprD := ⟨_, cr_repr hg hu, fun F H xs ds o Q dm b e gv => by
  unfold reprD at e
  split at e
  · rename_i d
    split at e
    · rename_i c
      obtain ⟨c1, c2, c3, c4⟩ := c
      cases e
      obtain ⟨v, rfl, bv⟩ := bps1 b
      exact ⟨v, F, d, rfl, bv, c1, Nat.le_trans c2 lim_line, c3, gv.here dm (.str _ c4)⟩
    · cases e
  · cases e⟩

/-! ### str of an int -/
def strD : List PyData → Option OR
  | [.int i] => if i.natAbs.log2 < 1920 ∧ PyData.strOk (toString i) = true then some (.val (.str (toString i))) else none
  | _ => none
theorem call_strA : CallD X (.type "str") strD := ⟨_, call_str_int, fun F H xs ds o Q dm b e gv => by
  unfold strD at e
  split at e
  · split at e
    · rename_i c
      cases e
      obtain ⟨v, rfl, bv⟩ := bps1 b
      cases bv.int_
      exact ⟨_, rfl, c.1, gv.here dm (.str _ c.2)⟩
    · cases e
  · cases e⟩
end
end Px
/-! PxO: how many unlike texts and numbers: len of a set comprehension -/
namespace Px
open PySem PySem.Spec PyProof.Rows L2

section
variable {X : Cx}
end

/-! ### the reading -/
theorem wipe_twice (σ : L2.St) (vs : List Nat) : L2.wipe (L2.wipe σ vs) vs = L2.wipe σ vs := by
  have one : ∀ (ws : List Nat) (u : Nat), u ∈ ws → (L2.wipe σ ws).set u none = L2.wipe σ ws := by
    intro ws u hu
    induction ws with
    | nil => cases hu
    | cons w ws ih =>
      show ((L2.wipe σ ws).set w none).set u none = (L2.wipe σ ws).set w none
      by_cases he : u = w
      · subst he; rw [List.set_set]
      · rw [List.set_comm _ _ (fun z => he z.symm), ih ((List.mem_cons.mp hu).resolve_left he)]
  have go : ∀ us : List Nat, (∀ v ∈ us, v ∈ vs) → L2.wipe (L2.wipe σ vs) us = L2.wipe σ vs := by
    intro us
    induction us with
    | nil => intro _; rfl
    | cons u us ih =>
      intro hw
      show (L2.wipe (L2.wipe σ vs) us).set u none = L2.wipe σ vs
      rw [ih fun v hv => hw v (List.mem_cons_of_mem _ hv)]
      exact one vs u (hw u List.mem_cons_self)
  exact go vs fun _ h => h
section
variable {X : Cx} {ct : Gx} {W : WX}
end
end Px
/-! PxP: which exception is caught, isinstance of it -/
namespace Px
open PySem PySem.Spec PyProof.Rows L2

/-- by the classes' names -/
def catL (l : List (String × Bool)) : Exn → Option Bool := fun y => l.lookup y.nm
inductive CatOk (ct : Gx) (P : Addr → Bool → Prop) : List (String × Bool) → Prop
  | nil : CatOk ct P []
  | cons {x : String} {b : Bool} {l : List (String × Bool)} {A : Addr} : ct.tab x = some A → P A b → CatOk ct P l → CatOk ct P ((x, b) :: l)
theorem CatOk.get {ct : Gx} {P : Addr → Bool → Prop} : ∀ {l : List (String × Bool)}, CatOk ct P l → ∀ (y : Exn) (C : Addr) (b : Bool), ct.tab y.nm = some C → catL l y = some b → P C b
  | _, .nil, _, _, _, _, e => by cases e
  | _, .cons (x := x) (b := b0) (l := l) h p r, y, C, b, e1, e2 => by
    unfold catL at e2
    rw [List.lookup_cons] at e2
    by_cases q : y.nm = x
    · rw [q] at e1 e2
      rw [beq_self_eq_true] at e2
      cases e2
      rw [h] at e1
      cases e1
      exact p
    · rw [beq_false_of_ne q] at e2
      exact CatOk.get r y C b e1 e2
section
variable {X : Cx} {ct : Gx} {W : WX}
theorem se_isN {a : Addr} {oe : Obj} {pn : List (Addr × Obj)} {y : Exn} {e : Expr} (i : Nat) (isx : Exn → Option Bool) (h : isx y = none) : SE (X.suite a ((a, oe) :: pn)) (ct.at a y) W0 e (eIsE i isx) := by
  intro B hB hct sl st
  refine ⟨fun pins s σ H Q I ⟨ω, sr, q⟩ => ?_⟩
  unfold eIsE at q
  cases hsl : sl[i]? with
  | none => rw [hsl] at q; exact q.elim
  | some t =>
    rw [hsl] at q
    have r := sr.slot i t hsl
    cases t with
    | non => exact q.elim
    | val d => exact q.elim
    | ref n => exact q.elim
    | hot y' =>
      obtain ⟨r1, r2⟩ := r
      rw [hct] at r2
      have r2' : y' = y := r2
      subst r2'
      dsimp only at q
      rw [h] at q
      exact q.elim
/-- isinstance(e, C) -/
theorem se_isX {a D : Addr} {oe : Obj} {pn : List (Addr × Obj)} {y : Exn} {C : Addr} {x z cl : Str} {p p1 p2 pos : Pos} (i : Nat) (l : List (String × Bool)) (ok : CatOk ct (fun D b => ExcC X.K D ∧ PySem.W.kitOne X.K (.ref D) (.ref C) = some b) l) (hy : ct.tab y.nm = some D) (hz : Zc (.ref D) none oe) (hf : ∃ vs, oe.data = .fields vs) (hx : x = "isinstance") (hg : Gl X x) (hm : X.mg x = none)
    (hi : X.N[i]? = some z) (hv : Vis X.env.scope z) (gc : Gl X cl) (mc : X.mg cl = some (.ref C)) (dz : (z == ("__debug__" : Str)) = false := by decide) (cz : (z == ("__classdict__" : Str)) = false := by decide)
    (dc : (cl == ("__debug__" : Str)) = false := by decide) (hs : starEach [.Name z p1, .Name cl p2] X.env = (false, eval (.Name z p1) X.env) :: starEach [.Name cl p2] X.env := by rfl) (hs2 : starEach [.Name cl p2] X.env = (false, eval (.Name cl p2) X.env) :: starEach [] X.env := by rfl)
    (hpl : (backTo pos (starEach [.Name cl p2] X.env)).any (·.1) = false := by rfl) : SE (X.suite a ((a, oe) :: pn)) (ct.at a y) W0 (.Call (.Name x p) [.Name z p1, .Name cl p2] [] pos) (eIsE i (catL l)) := by
  cases hb : catL l y with
  | none => exact se_isN i (catL l) hb
  | some b =>
    obtain ⟨EC, k⟩ := ok.get y D b hy hb
    exact se_isE i (catL l) EC hz hf hx hg hm hi hv gc mc (fun b' e => by rw [hb] at e; cases e; exact k) dz cz dc hs hs2 hpl
/-- {} -/
def eDic0 : FE := fun _ st => .ok (.new (.dic [])) st
theorem se_dic0 {pos : Pos} : SE X ct W (.Dict [] [] pos) eDic0 := by
  intro B hB hc sl st
  refine pe_imp pe_dnewK fun σ H Q ⟨ω, s, q⟩ p hp => ?_
  obtain ⟨h1, h2, h3⟩ := s.fresh hp
  have px : PEx ω.F H ω.F (upd H p (.dK [])) := PEx.neu s.dom hp
  exact q (.ref p) ⟨ω.F, ω.ad⟩ _ (s.px px) (s.pure px) ⟨p, rfl, h1, h2, h3, [], upd_same, .nil⟩
end
end Px
/-! PxQ: a tuple beside the empty one, whatever stands in it -/
namespace Px
open PySem PySem.Spec PyProof.Rows L2
section
variable {X : Cx}
def rEmp (K : PySem.W.Frag) (f : List V → Bool) : R2 := fun x y H Q => ∃ a b xs, x = .ref a ∧ y = .ref b ∧ SqT K H a xs ∧ SqT K H b [] ∧ Q (.bl (f xs)) H
theorem emp_tup {pins : List (Addr × Obj)} {σ : L2.St} {H : Hp} {s : Shared} {a : Addr} {xs : List V} (I : Inv X pins σ H s) (h : SqT X.K H a xs) : ∃ its : Array Value, s.heap.IsTuple a its ∧ its.size = xs.length := by
  obtain ⟨its, r, ⟨o, h1, h2, n, h3⟩, _⟩ := I.tuple h
  exact ⟨its.toArray, ⟨o, h1, h2, n, h3⟩, by rw [List.size_toArray, r.length]⟩
theorem op_eqEmp (hu : X.A.units < cLine) : OpR X (compareOp .Eq) (rEmp X.K List.isEmpty) := by
  intro pins s σ H x y v u Q I rx ry h
  obtain ⟨a, b, xs, rfl, rfl, ha, hb, q⟩ := h
  cases rx
  cases ry
  obtain ⟨i1, t1, l1⟩ := emp_tup I ha
  obtain ⟨i2, t2, l2⟩ := emp_tup I hb
  have l2' : i2.size = 0 := l2
  refine SeqAt.RcAt.tuples (e := fun _ => true) t1 t2 hu (fun j _ h2 => absurd h2 (by rw [l2']; exact Nat.not_lt_zero _)) X.prog X.w _ _ ⟨.bl _, H, I, rfl, ?_⟩
  have e : ((List.range (min i1.size i2.size)).all (fun _ => true) && i1.size == i2.size) = xs.isEmpty := by
    rw [l2', l1]
    cases xs <;> simp
  rw [e]
  exact q
theorem op_neEmp (hu : X.A.units < cLine) : OpR X (compareOp .NotEq) (rEmp X.K fun xs => !xs.isEmpty) := by
  intro pins s σ H x y v u Q I rx ry h
  obtain ⟨a, b, xs, rfl, rfl, ha, hb, q⟩ := h
  cases rx
  cases ry
  obtain ⟨i1, t1, l1⟩ := emp_tup I ha
  obtain ⟨i2, t2, l2⟩ := emp_tup I hb
  have l2' : i2.size = 0 := l2
  refine SeqAt.RcNeAt.tuples (e := fun _ => true) t1 t2 hu (fun j _ h2 => absurd h2 (by rw [l2']; exact Nat.not_lt_zero _)) X.prog X.w _ _ ⟨.bl _, H, I, rfl, ?_⟩
  have e : (!((List.range (min i1.size i2.size)).all (fun _ => true) && i1.size == i2.size)) = !xs.isEmpty := by
    rw [l2', l1]
    cases xs <;> simp
  rw [e]
  exact q
def eqE : PyData → PyData → Option Bool
  | .tuple xs, .tuple [] => some xs.isEmpty
  | a, b => eqD a b
def neE : PyData → PyData → Option Bool
  | .tuple xs, .tuple [] => some (!xs.isEmpty)
  | a, b => neD a b
theorem Bp.emp {K : PySem.W.Frag} {F : Addr → Prop} {H : Hp} {x y : V} {xs : List PyData} (b1 : Bp K F H x (.tuple xs)) (b2 : Bp K F H y (.tuple [])) : ∃ a b vs, x = .ref a ∧ y = .ref b ∧ SqT K H a vs ∧ SqT K H b [] ∧ vs.isEmpty = xs.isEmpty := by
  obtain ⟨a, vs, rfl, s1, r1⟩ := b1.tup_
  obtain ⟨b, ws, rfl, s2, r2⟩ := b2.tup_
  cases r2
  refine ⟨a, b, vs, rfl, rfl, s1, s2, ?_⟩
  cases r1 <;> rfl
theorem rel_eqE (hu : X.A.units + 64 < cLine) : RelD X .Eq eqE := by
  obtain ⟨r, o, k⟩ := rel_eq hu
  refine ⟨_, op_or (op_eqEmp (by omega)) o, fun F H x y d1 d2 b Q b1 b2 e q => ?_⟩
  unfold eqE at e
  split at e
  · cases e
    obtain ⟨a, c, vs, e1, e2, s1, s2, e3⟩ := b1.emp b2
    exact .inl ⟨a, c, vs, e1, e2, s1, s2, by rw [e3]; exact q⟩
  · exact .inr (k F H x y _ _ b Q b1 b2 e q)
theorem rel_neE (hu : X.A.units + 64 < cLine) : RelD X .NotEq neE := by
  obtain ⟨r, o, k⟩ := rel_ne hu
  refine ⟨_, op_or (op_neEmp (by omega)) o, fun F H x y d1 d2 b Q b1 b2 e q => ?_⟩
  unfold neE at e
  split at e
  · cases e
    obtain ⟨a, c, vs, e1, e2, s1, s2, e3⟩ := b1.emp b2
    exact .inl ⟨a, c, vs, e1, e2, s1, s2, by show Q (.bl (!vs.isEmpty)) H; rw [e3]; exact q⟩
  · exact .inr (k F H x y _ _ b Q b1 b2 e q)
end
end Px
namespace Px
open PySem PySem.Spec PyProof.Rows L2
/-- of what is never called nothing is asked -/
theorem fnG_fail {P : Program} {w : World} {K : PySem.W.Frag} {mg : Str → Option Value} {base : Heap} {ct : Gx} {k : Nat} {f : Addr} {fd : FuncData} {ps : List Str} : FnG P w K mg base (L2.CX P w) k f fd ps (spOf K ct (List.length ps) fun _ => .fail) :=
  ⟨fun vs H Q E ⟨_, _, _, h, _⟩ => h, fun A outer s H args us vs Q E _ _ _ _ _ ⟨_, _, _, _, _, _, _, q⟩ => q.elim⟩
end Px
/-! PxR: the end of a law's row, from what its def is as a function -/
namespace Px
open PySem PySem.Spec PyProof.Rows L2

theorem rpa_ints {K : PySem.W.Frag} {F : Addr → Prop} {H : Hp} : ∀ ns : List Int, RpA K F H (ns.map V.int) (ns.map PyData.int)
  | [] => .nil
  | n :: ns => .cons (.int n) (rpa_ints ns)
/-- the law's promise at the script -/
theorem law_says {K : PySem.W.Frag} {ct : Gx} {D : FD} {H : Hp} {a : Addr} {ns : List Int} (F : Addr → Prop) (dm : ∀ b, F b → H b ≠ none) (f : FzL K F H a (ns.map V.int)) (hD : D [.val (.list (ns.map .int))] = .rt (.bool true) []) :
    spOf K ct (List.length (α := Str) ["script"]) D [.ref a] H (fun v _ => v = .bl true) (fun _ _ _ => False) := by
  refine ⟨F, [.val (.list (ns.map .int))], [], rfl, .val (.lst f (rpa_ints ns)) .nil, dm, List.nodup_nil, ?_⟩
  rw [hD]
  intro v F' H' _ r
  cases r
  rfl
section
variable {P : Program} {w : World} {K : PySem.W.Frag} {mg mb : Str → Option Value} {k : Nat} {fa a : Addr} {fd : FuncData} {D : FD} {ct : Gx} {s : Shared} {vs : List Value} {ns : List Int}
/-- where but one thing is tracked -/
structure Lone (P : Program) (w : World) (K : PySem.W.Frag) (s : Shared) (a : Addr) (H : Hp) (ns : List Int) : Prop where
  ok : HOk P w H s.heap
  one : ∀ b, H b ≠ none → b = a ∧ (∃ o xs, H b = some (.frz o (.lst xs))) ∧ K.lookup b = none
  fz : FzL K (fun b => H b ≠ none) H a (ns.map V.int)
theorem lone_of (KX : K.In s.heap) (ha : s.heap.get? a = some { cls := .type "list", data := .seq vs.toArray }) (hi : IntsAre vs ns) (hl : ns.length ≤ sizeLine) : ∃ H, Lone P w K s a H ns := by
  have rv : Vals (ns.map V.int) vs := vals_ints hi
  have len : vs.length = ns.length := by rw [← rv.length, List.length_map]
  by_cases hk : K.lookup a = none
  · let H : Hp := fun b => if b = a then some (.frz { cls := .type "list", data := .seq vs.toArray } (.lst (ns.map V.int))) else none
    have at_a : H a = some (.frz { cls := .type "list", data := .seq vs.toArray } (.lst (ns.map V.int))) := if_pos rfl
    have only : ∀ b u, H b = some u → b = a ∧ u = .frz { cls := .type "list", data := .seq vs.toArray } (.lst (ns.map V.int)) := fun b u e => by
      by_cases hb : b = a
      · subst hb; rw [at_a] at e; cases e; exact ⟨rfl, rfl⟩
      · have z : H b = none := if_neg hb
        rw [z] at e; cases e
    refine ⟨H, fun b u e => ?_, fun b hb => ?_, .inl ⟨(by show H a ≠ none; rw [at_a]; exact (fun z => nomatch z)), .inr ⟨_, at_a⟩⟩⟩
    · obtain ⟨rfl, rfl⟩ := only b u e
      exact ⟨ha, by rw [List.length_map]; exact hl, vs, _, rv, ha⟩
    · cases e : H b with
      | none => exact absurd e hb
      | some u =>
        obtain ⟨rfl, rfl⟩ := only b u e
        exact ⟨rfl, ⟨_, _, rfl⟩, hk⟩
  · obtain ⟨o, ho⟩ := Option.ne_none_iff_exists'.mp hk
    have e := KX a o ho
    rw [ha] at e
    cases e
    exact ⟨fun _ => none, fun b u e => (nomatch (show (none : Option HO) = some u from e)), fun b hb => absurd rfl hb, .inr (.inr ⟨_, vs.toArray, _, ho, rfl, rfl, rfl, by rw [List.size_toArray, len]; exact hl, by simpa using rv⟩)⟩
theorem law_end (KX : K.In s.heap) (hns : s.heap.Ns mainGlobals mg) (hb : s.heap.Ns builtinsNs mb) (hbb : ∀ x : Str, x ≠ "__name__" → mb x = bootBuiltins x) (hlim : s.heap.NoLimit) (hg : s.gens = #[])
    (ha : s.heap.get? a = some { cls := .type "list", data := .seq vs.toArray }) (hi : IntsAre vs ns) (hl : ns.length ≤ sizeLine) (hr : Room k callerA)
    (F : ∀ base : Heap, K.In base → base.Ns mainGlobals mg → FnG P w K mg base (L2.CX P w) k fa fd ["script"] (spOf K ct (List.length (α := Str) ["script"]) D)) (hbind : ∀ (s : Shared) (u : Value), BindsTo s fd ⟨[u], []⟩ [("script", u)])
    (hD : D [.val (.list (ns.map .int))] = .rt (.bool true) []) :
    codeAny (model P w) callerA (.call (.ref fa) ⟨[.ref a], []⟩) (fun r s' => r = .ok (.ret (.bool true)) ∧ OldK s.heap s'.heap ∧ s'.os = s.os ∧ AllBare s'.gens) s := by
  obtain ⟨H, L⟩ := lone_of (P := P) (w := w) KX ha hi hl
  have shown : ∀ b o, s.heap.get? b = some o → H b = none → (hidT s.heap H).get? b = some o := fun b o e n => hidT_get e n
  have names : ∀ b m, s.heap.Ns b m → (hidT s.heap H).Ns b m := fun b m ⟨o, es, ep, e, d, r⟩ => by
    refine ⟨o, es, ep, shown b o e ?_, d, r⟩
    refine Classical.byContradiction fun n => ?_
    obtain ⟨rfl, _⟩ := L.one b n
    rw [ha] at e
    cases e
    exact nomatch (show Data.seq vs.toArray _ = Data.dict es ep from d)
  have inK : K.In (hidT s.heap H) := fun b o e => shown b o (KX b o e) (Classical.byContradiction fun n => by
    have z := (L.one b n).2.2
    rw [e] at z
    cases z)
  obtain ⟨mc, l1, l2⟩ := hlim
  have env : Env0 P w K mg (hidT s.heap H) callerA [] s H :=
    ⟨rfl, ⟨inK, names _ _ hns, ⟨mb, names _ _ hb, hbb⟩, ⟨mc, names _ _ l1, l2⟩⟩, fun b o e => of_hidT e, Nat.le_of_eq (hidT_size _ _), trivial, fun b hb => (nomatch (show b ∈ ([] : List Addr) from hb)), L.ok, .of_eq hg⟩
  refine codeAny_mono ((F _ inK (names _ _ hns)).run callerA [] s H ⟨[.ref a], []⟩ [.ref a] [.ref a] _ _ hr rfl env (hbind s (.ref a)) (.cons rfl .nil) (law_says _ (fun b h => h) L.fz hD)) fun r s' h => ?_
  match r, h with
  | .ok (.ret u), ⟨v, H', os, bare, un, ok', rel, q⟩ =>
    subst q
    cases (show u = Value.bool true from rel)
    refine ⟨rfl, OldK.of_keep fun b o e => ?_, os, bare⟩
    by_cases n : H b = none
    · exact un.keep b o e n (fun z => nomatch (show b ∈ ([] : List Addr) from z)) (fun z => nomatch z)
    · obtain ⟨rfl, ⟨ob, xs, z⟩, _⟩ := L.one b n
      obtain ⟨e1, _⟩ := L.ok _ _ z
      obtain ⟨e2, _⟩ := ok' _ _ (un.frzs _ _ _ z)
      rw [e] at e1
      cases e1
      exact e2
  | .ok .next, h => exact False.elim h
  | .ok .brk, h => exact False.elim h
  | .ok .cont, h => exact False.elim h
  | .error e, ⟨_, _, _, _, _, _, _, _, _, _, _, _, z⟩ => exact z.elim
end
theorem walk_px {l : PySem.W.OpenLaw} {n k : Nat} {q : Program} {loose : List Str} {XP : (Str → Option Value) → Heap → Prop} {YP : World → Heap → Prop} {d : DefRec} {K : Params → PySem.W.Frag} {D : FD}
    (hn : l.most = some n) (hn2 : n ≤ sizeLine) (hdf : d.params.defaults = []) (hr : Room k callerA) (hY : ∀ (w : World) (h : Heap), YP w h → (K w.params).In h)
    (F : ∀ (w : World) (mg : Str → Option Value) (fa : Addr) (h : Heap), (K w.params).In h → h.Ns mainGlobals mg → mg d.name = some (.ref fa) →
      ∃ fd : FuncData, (∀ (s : Shared) (u : Value), BindsTo s fd ⟨[u], []⟩ [("script", u)]) ∧ ∃ ct : Gx,
        ∀ base : Heap, (K w.params).In base → base.Ns mainGlobals mg → FnG l.prog w (K w.params) mg base (L2.CX l.prog w) k fa fd ["script"] (spOf (K w.params) ct (List.length (α := Str) ["script"]) D))
    (hD : ∀ ns : List Int, ns.length ≤ n → (∀ z ∈ ns, Builtin.Int.intBits z ≤ 1048576) → D [.val (.list (ns.map .int))] = .rt (.bool true) []) :
    PySem.W.WalkO q loose XP YP l.row.toRowW d [] (fun f vs => PySem.call f vs) := by
  refine Att.attach_callB hn hdf fun w s₀ s₁ mg mb fa o pm cd doc a vs ns G Y ho hd hcd hmg hobj hints hlen hbits hg => ?_
  have KX := hY w _ Y
  obtain ⟨fd, hb, ct, hF⟩ := F w mg fa _ KX G.T.g hmg
  exact law_end KX G.T.g G.T.b G.T.builtins G.T.nolimit hg hobj hints (Nat.le_trans hlen hn2) hr hF hb (hD ns hlen hbits)
end Px
namespace Px
open PySem PySem.Spec PyProof.Rows L2
section
variable {K : PySem.W.Frag} {C D : Addr} {b b2 : Bool} {t c1 c2 : Value}
/-- own classes asked of own classes -/
theorem kit_ref (hd : PySem.W.hasDictIn K C = true) (ht : PySem.W.typeIn K (.ref C) = some (.type "type")) (h : PySem.W.subIn K (.ref D) (.ref C) = some b) (hb : D = C → b = true) : PySem.W.kitOne K (.ref D) (.ref C) = some b := by
  unfold PySem.W.kitOne
  by_cases e : (Value.ref D == Value.ref C) = true
  · rw [if_pos e]
    have e' : D = C := Value.ref.inj (eq_of_beq e)
    rw [hb e']
  · rw [if_neg e]
    obtain ⟨cd, hc, _⟩ := PySem.W.any_some hd
    have hq : ((PySem.W.clsIn K C).isSome && PySem.W.typeIn K (.ref C) == some (.type "type")) = true := by rw [hc, ht] <;> rfl
    show (if ((PySem.W.clsIn K C).isSome && PySem.W.typeIn K (.ref C) == some (.type "type")) = true then PySem.W.subIn K (.ref D) (.ref C) else none) = some b
    rw [if_pos hq]
    exact h
end
end Px
/-! PxS: what a def's function gives, step by step -/
namespace Px
open PySem PySem.Spec PyProof.Rows L2
section
variable {sl sl1 : Sls} {st st1 st2 st3 st4 : Sto} {e1 e2 : EV} {a b c d : PyData} {r : OR} {f f1 f2 f3 : FE} {R : RS} {k : Bool}
theorem u1_ok {g : PyData → Option OR} (h1 : f sl st = .ok e1 st1) (d1 : e1.dat st1 = some a) (h : g a = some r) : u1 g f sl st = .ok r.ev st1 := by unfold u1; rw [h1]; dsimp only; rw [d1]; dsimp only; rw [h]
theorem u2_ok {g : PyData → PyData → Option OR} (h1 : f1 sl st = .ok e1 st1) (h2 : f2 sl st1 = .ok e2 st2) (d1 : e1.dat st2 = some a) (d2 : e2.dat st2 = some b) (h : g a b = some r) : u2 g f1 f2 sl st = .ok r.ev st2 := by
  unfold u2; rw [h1]; dsimp only; rw [h2]; dsimp only; rw [d1, d2]; dsimp only; rw [h]
theorem t2_ok {g : PyData → PyData → Option Bool} (h1 : f1 sl st = .ok e1 st1) (h2 : f2 sl st1 = .ok e2 st2) (d1 : e1.dat st2 = some a) (d2 : e2.dat st2 = some b) (h : g a b = some k) : t2 g f1 f2 sl st = .ok k st2 := by
  unfold t2; rw [h1]; dsimp only; rw [h2]; dsimp only; rw [d1, d2]; dsimp only; rw [h]
theorem un_ok {g : List PyData → Option OR} {fa : FA} {es : List EV} {ds : List PyData} (h1 : fa sl st = .ok es st1) (h2 : datAll st1 es = some ds) (h : g ds = some r) : un g fa sl st = .ok r.ev st1 := by
  unfold un; rw [h1]; dsimp only; rw [h2]; dsimp only; rw [h]
theorem aCons_ok {g : FA} {es : List EV} (h1 : f sl st = .ok e1 st1) (h2 : g sl st1 = .ok es st2) : aCons f g sl st = .ok (e1.soft :: es) st2 := by unfold aCons; rw [h1]; dsimp only; rw [h2]
theorem eDisp_ok {mk : List PyData → OR} {fa : FA} {es : List EV} {ds : List PyData} (h1 : fa sl st = .ok es st1) (h2 : fixAll st1 es = some (ds, st2)) (hl : ds.length ≤ Lim) : eDisp mk fa sl st = .ok (mk ds).ev st2 := by
  unfold eDisp; rw [h1]; dsimp only; rw [h2]; dsimp only; rw [if_pos hl]
theorem eTup_ok {fa : FA} {es : List EV} {ds : List PyData} (h1 : fa sl st = .ok es st1) (h2 : fixAll st1 es = some (ds, st2)) (hl : ds.length ≤ Lim) : eTup fa sl st = .ok (.val (.tuple ds)) st2 := eDisp_ok h1 h2 hl
theorem eLst_ok {fa : FA} {es : List EV} {ds : List PyData} (h1 : fa sl st = .ok es st1) (h2 : fixAll st1 es = some (ds, st2)) (hl : ds.length ≤ Lim) : eLst fa sl st = .ok (.new (.lst ds)) st2 := eDisp_ok h1 h2 hl
theorem eCall_ok {D : FD} {ms : List Bool} {fa : FA} {es : List EV} {rs : List (PyData ⊕ Nat)} {as : List Arg} {ns : List Nat} {os : List MO} (h1 : fa sl st = .ok es st1) (h2 : fixM ms es st1 = some (rs, st2)) (h3 : argsM st2 rs = some (as, ns)) (h4 : ns.Nodup) (h5 : D as = .rt d os) (h6 : os.length = ns.length) :
    eCall D ms fa sl st = .ok (.val d) (putAll st2 ns os) := by
  unfold eCall; rw [h1]; dsimp only; rw [h2]; dsimp only; rw [h3]; dsimp only; rw [if_pos h4, h5]; dsimp only; rw [if_pos h6]
theorem tst_ok (h : f sl st = .ok (.val (.bool k)) st1) : tst f sl st = .ok k st1 := by unfold tst; rw [h]
theorem tNotF_ok {t : FT} (h : t sl st = .ok k st1) : tNotF t sl st = .ok (!k) st1 := by unfold tNotF; rw [h]
theorem eNot_ok (h : f sl st = .ok (.val (.bool k)) st1) : eNot f sl st = .ok (.val (.bool (!k))) st1 := by unfold eNot; rw [h]
theorem tOrF_ok {t u : FT} {T : Re Bool} (h : t sl st = .ok k st1) (q : (bif k then Re.ok true st1 else u sl st1) = T) : tOrF t u sl st = T := by
  unfold tOrF; rw [h]; cases k <;> exact q
theorem tAndF_ok {t u : FT} {T : Re Bool} (h : t sl st = .ok k st1) (q : (bif k then u sl st1 else Re.ok false st1) = T) : tAndF t u sl st = T := by
  unfold tAndF; rw [h]; cases k <;> exact q
theorem eOr_ok {T : Re EV} (h : f sl st = .ok (.val (.bool k)) st1) (q : (bif k then Re.ok (.val (.bool true)) st1 else f2 sl st1) = T) : eOr f f2 sl st = T := by
  unfold eOr; rw [h]; cases k <;> exact q
theorem eAnd_ok {T : Re EV} (h : f sl st = .ok (.val (.bool k)) st1) (q : (bif k then f2 sl st1 else Re.ok (.val (.bool false)) st1) = T) : eAnd f f2 sl st = T := by
  unfold eAnd; rw [h]; cases k <;> exact q
theorem eIf_ok {t : FT} {T : Re EV} (h : t sl st = .ok k st1) (q : (bif k then f sl st1 else f2 sl st1) = T) : eIf t f f2 sl st = T := by
  unfold eIf; rw [h]; cases k <;> exact q
theorem eOfT_ok {t : FT} (h : t sl st = .ok k st1) : eOfT t sl st = .ok (.val (.bool k)) st1 := by unfold eOfT; rw [h]
theorem sIf_ok {t : FT} {g1 g2 : FS} (h : t sl st = .ok k st1) (q : (bif k then g1 sl st1 else g2 sl st1) = R) : sIf t g1 g2 sl st = R := by
  unfold sIf; rw [h]; cases k <;> exact q
theorem sSeq_ok {g1 g2 : FS} (h : g1 sl st = .nx sl1 st1) (q : g2 sl1 st1 = R) : sSeq g1 g2 sl st = R := by unfold sSeq; rw [h]; exact q
theorem sSeq_rt {g1 g2 : FS} (h : g1 sl st = .rt d st1) : sSeq g1 g2 sl st = .rt d st1 := by unfold sSeq; rw [h]
theorem sSeq_exc {g1 g2 : FS} {x : Exn} (h : g1 sl st = .exc x sl1 st1) : sSeq g1 g2 sl st = .exc x sl1 st1 := by unfold sSeq; rw [h]
theorem sSet_ok {own : Bool} {i : Nat} (h : f sl st = .ok e1 st1) (q : sTell own i e1 sl st1 = R) : sSet own i f sl st = R := by unfold sSet; rw [h]; exact q
theorem sRet_ok (h : f sl st = .ok e1 st1) (q : e1.fix st1 = some (d, st2)) : sRet f sl st = .rt d st2 := by unfold sRet; rw [h]; dsimp only; rw [q]
theorem sExpr_ok (h : f sl st = .ok e1 st1) : sExpr f sl st = .nx sl st1 := by unfold sExpr; rw [h]
theorem sSetIx_ok {fv fo fi : FE} {n j : Nat} {i : Int} {xs : List PyData} (h1 : fv sl st = .ok e1 st1) (h0 : e1.fix st1 = some (d, st2)) (h2 : fo sl st2 = .ok (.bor n) st3) (h3 : fi sl st3 = .ok (.val (.int i)) st4) (h4 : lstAt st4 n = some xs) (h5 : ixN xs.length i = some j) :
    sSetIx fv fo fi sl st = .nx sl (putAt st4 n (.lst (xs.set j d))) := by
  unfold sSetIx; rw [h1]; dsimp only; rw [h0]; dsimp only; rw [h2]; dsimp only; rw [h3]; dsimp only; rw [h4]; dsimp only; rw [h5]
theorem sForI_ok {fi : FI} {h : FG} {g : FS} {ds : List PyData} (h1 : fi sl st = .ok ds st1) (q : sFor h g ds sl st1 = R) : sForI fi h g sl st = R := by unfold sForI; rw [h1]; exact q
theorem iSeq_list {ds : List PyData} (h : f sl st = .ok e1 st1) (q : e1.fix st1 = some (.list ds, st2)) : iSeq f sl st = .ok ds st2 := by unfold iSeq; rw [h]; dsimp only; rw [q]
theorem iSeq_tup {ds : List PyData} (h : f sl st = .ok e1 st1) (q : e1.fix st1 = some (.tuple ds, st2)) : iSeq f sl st = .ok ds st2 := by unfold iSeq; rw [h]; dsimp only; rw [q]
theorem iR1_ok {n : Int} (h : f sl st = .ok (.val (.int n)) st1) (q : Small n) : iR1 f sl st = .ok (rngL 0 n.toNat) st1 := by unfold iR1; rw [h]; dsimp only; rw [if_pos q]
theorem eLc_ok {vs : List Nat} {fi : FI} {h : FG} {t : FT} {ds es : List PyData} (h1 : fi sl st = .ok ds st1) (h2 : lcGo h t f (wipeS sl vs) ds st1 = some (es, st2)) (hl : es.length ≤ Lim) : eLc vs fi h t f sl st = .ok (.new (.lst es)) st2 := by
  unfold eLc; rw [h1]; dsimp only; rw [h2]; dsimp only; rw [if_pos hl]
theorem int2_ok {C : Int → Int → Prop} [∀ i j, Decidable (C i j)] {g : Int → Int → Int} {i j : Int} (h : C i j) : int2 C g (.int i) (.int j) = some (.val (.int (g i j))) := if_pos h
theorem runD_rt {n : Nat} {g : FS} {as : List Arg} (h : g (slots0 as 0 ++ List.replicate (n - as.length) .non) (cells0 as) = .rt d st) : runD n g as = .rt d (outs st) := by unfold runD; rw [h]; rfl
theorem runD_rn {n : Nat} {g : FS} {as : List Arg} {o : MO} (h : g (slots0 as 0 ++ List.replicate (n - as.length) .non) (cells0 as) = .rn o st) : runD n g as = .rn o (outs st) := by unfold runD; rw [h]; rfl
theorem sRetW_ok {o : MO} (h : f sl st = .ok (.new o) st1) : sRetW f sl st = .rn o st1 := by unfold sRetW; rw [h]
theorem eCall_new {D : FD} {ms : List Bool} {fa : FA} {es : List EV} {rs : List (PyData ⊕ Nat)} {as : List Arg} {ns : List Nat} {os : List MO} {o : MO} (h1 : fa sl st = .ok es st1) (h2 : fixM ms es st1 = some (rs, st2)) (h3 : argsM st2 rs = some (as, ns)) (h4 : ns.Nodup) (h5 : D as = .rn o os) (h6 : os.length = ns.length) :
    eCall D ms fa sl st = .ok (.new o) (putAll st2 ns os) := by
  unfold eCall; rw [h1]; dsimp only; rw [h2]; dsimp only; rw [h3]; dsimp only; rw [if_pos h4, h5]; dsimp only; rw [if_pos h6]
theorem runD_exc {n : Nat} {g : FS} {as : List Arg} {x : Exn} (h : g (slots0 as 0 ++ List.replicate (n - as.length) .non) (cells0 as) = .exc x sl st) : runD n g as = .exc x (outs st) := by unfold runD; rw [h]; rfl
theorem bif_t {α : Type} {k : Bool} {x y z : α} (h : k = true) (q : x = z) : (bif k then x else y) = z := by rw [h]; exact q
theorem bif_f {α : Type} {k : Bool} {x y z : α} (h : k = false) (q : y = z) : (bif k then x else y) = z := by rw [h]; exact q
end
end Px
/-! PxT: loops by what stays; texts as lists of signs -/
namespace Px
open PySem PySem.Spec PyProof.Rows L2

theorem sFor_inv {h : FG} {b : FS} (I : Nat → Sls → Sto → Prop) : ∀ (ds : List PyData) (n : Nat) (sl : Sls) (st : Sto), I n sl st →
    (∀ (i : Nat) (d : PyData) (sl : Sls) (st : Sto), ds[i]? = some d → I (n + i) sl st → ∃ sl1, h d sl = some sl1 ∧ ∃ sl2 st2, b sl1 st = .nx sl2 st2 ∧ I (n + i + 1) sl2 st2) →
    ∃ sl' st', sFor h b ds sl st = .nx sl' st' ∧ I (n + ds.length) sl' st'
  | [], n, sl, st, h0, _ => ⟨sl, st, rfl, h0⟩
  | d :: ds, n, sl, st, h0, step => by
    obtain ⟨sl1, e1, sl2, st2, e2, i2⟩ := step 0 d sl st rfl h0
    obtain ⟨sl', st', e3, i3⟩ := sFor_inv I ds (n + 1) sl2 st2 i2 fun i d' sl st hd hi => by
      have := step (i + 1) d' sl st (by simpa using hd) (by rw [show n + (i + 1) = n + 1 + i by omega]; exact hi)
      rw [show n + (i + 1) + 1 = n + 1 + i + 1 by omega] at this
      exact this
    refine ⟨sl', st', ?_, by rw [List.length_cons, show n + (ds.length + 1) = n + 1 + ds.length by omega]; exact i3⟩
    unfold sFor
    rw [e1]
    dsimp only
    rw [e2]
    exact e3
theorem lcGo_inv {h : FG} {t : FT} {f : FE} {sl0 : Sls} (J : Nat → List PyData → Sto → Prop) : ∀ (ds : List PyData) (n : Nat) (acc : List PyData) (st : Sto), J n acc st →
    (∀ (i : Nat) (d : PyData) (acc : List PyData) (st : Sto), ds[i]? = some d → J (n + i) acc st → ∃ sl1, h d sl0 = some sl1 ∧ ∃ k st1, t sl1 st = .ok k st1 ∧ (k = false → J (n + i + 1) acc st1) ∧ (k = true → ∃ ev st2 e st3, f sl1 st1 = .ok ev st2 ∧ ev.fix st2 = some (e, st3) ∧ J (n + i + 1) (acc ++ [e]) st3)) →
    ∃ es st', lcGo h t f sl0 ds st = some (es, st') ∧ J (n + ds.length) (acc ++ es) st'
  | [], n, acc, st, h0, _ => ⟨[], st, rfl, by rw [List.append_nil]; exact h0⟩
  | d :: ds, n, acc, st, h0, step => by
    obtain ⟨sl1, e1, k, st1, e2, k0, k1⟩ := step 0 d acc st rfl h0
    have more : ∀ (i : Nat) (d : PyData) (acc : List PyData) (st : Sto), ds[i]? = some d → J (n + 1 + i) acc st → ∃ sl1, h d sl0 = some sl1 ∧ ∃ k st1, t sl1 st = .ok k st1 ∧ (k = false → J (n + 1 + i + 1) acc st1) ∧ (k = true → ∃ ev st2 e st3, f sl1 st1 = .ok ev st2 ∧ ev.fix st2 = some (e, st3) ∧ J (n + 1 + i + 1) (acc ++ [e]) st3) := fun i d' acc st hd hi => by
      have := step (i + 1) d' acc st (by simpa using hd) (by rw [show n + (i + 1) = n + 1 + i by omega]; exact hi)
      rw [show n + (i + 1) + 1 = n + 1 + i + 1 by omega] at this
      exact this
    cases k with
    | false =>
      obtain ⟨es, st', e3, i3⟩ := lcGo_inv J ds (n + 1) acc st1 (k0 rfl) more
      refine ⟨es, st', ?_, by rw [List.length_cons, show n + (ds.length + 1) = n + 1 + ds.length by omega]; exact i3⟩
      unfold lcGo
      rw [e1]
      dsimp only
      rw [e2]
      exact e3
    | true =>
      obtain ⟨ev, st2, e, st3, f1, f2, i2⟩ := k1 rfl
      obtain ⟨es, st', e3, i3⟩ := lcGo_inv J ds (n + 1) (acc ++ [e]) st3 i2 more
      refine ⟨e :: es, st', ?_, by rw [List.length_cons, show n + (ds.length + 1) = n + 1 + ds.length by omega, show acc ++ e :: es = acc ++ [e] ++ es by simp]; exact i3⟩
      unfold lcGo
      rw [e1]
      dsimp only
      rw [e2]
      dsimp only
      rw [f1]
      dsimp only
      rw [f2]
      dsimp only
      rw [e3]
/-- a comprehension that changes nothing: by each item -/
theorem lcGo_map {h : FG} {t : FT} {f : FE} {sl0 : Sls} {st : Sto} (p : PyData → Bool) (g : PyData → PyData) : ∀ (ds : List PyData),
    (∀ d ∈ ds, ∃ sl1, h d sl0 = some sl1 ∧ t sl1 st = .ok (p d) st ∧ (p d = true → ∃ ev, f sl1 st = .ok ev st ∧ ev.fix st = some (g d, st))) → lcGo h t f sl0 ds st = some ((ds.filter p).map g, st)
  | [], _ => rfl
  | d :: ds, step => by
    obtain ⟨sl1, e1, e2, e3⟩ := step d List.mem_cons_self
    have ih := lcGo_map p g ds fun d hd => step d (List.mem_cons_of_mem _ hd)
    unfold lcGo
    rw [e1]
    dsimp only
    rw [e2]
    cases hp : p d with
    | false =>
      rw [List.filter_cons_of_neg (by rw [hp]; exact Bool.false_ne_true)]
      exact ih
    | true =>
      obtain ⟨ev, f1, f2⟩ := e3 hp
      dsimp only
      rw [f1]
      dsimp only
      rw [f2]
      dsimp only
      rw [ih, List.filter_cons_of_pos hp]
      rfl
/-! ### texts -/
/-- the text of these signs -/
def tx (l : List Nat) : Str := ⟨l.toArray⟩
theorem tx_len (l : List Nat) : (tx l).length = l.length := List.size_toArray ..
theorem tx_inj {a b : List Nat} (h : tx a = tx b) : a = b := by
  have : (tx a).cps.toList = (tx b).cps.toList := by rw [h]
  simpa [tx] using this
theorem tx_app (a b : List Nat) : tx a ++ tx b = tx (a ++ b) := by
  show Str.mk (a.toArray ++ b.toArray) = _
  rw [List.append_toArray]
  rfl
theorem add_tx {a b : List Nat} (h : a.length + b.length ≤ Lim) : addD (.str (tx a)) (.str (tx b)) = some (.val (.str (tx (a ++ b)))) := by
  show (if (tx a).length + (tx b).length ≤ Lim then some (OR.val (.str (tx a ++ tx b))) else none) = _
  rw [if_pos (by rw [tx_len, tx_len]; exact h), tx_app]
theorem cut_tx {a : List Nat} {lo hi : Option Int} (h : a.length ≤ Lim) : cutD lo hi (.str (tx a)) = some (.val (.str (tx (cutL a lo hi)))) := by
  show (if (tx a).length ≤ Lim then some (OR.val (.str (cutS (tx a) lo hi))) else none) = _
  rw [if_pos (by rw [tx_len]; exact h)]
  congr 3
theorem ix_tx {a : List Nat} {i : Nat} (hi : i < a.length) (h : a.length ≤ Lim) : ixD (.str (tx a)) (.int i) = some (.val (.str (tx [a[i]]))) := by
  show (if (tx a).length ≤ Lim then (atI (tx a).cps.toList (i : Int)).map (fun c => OR.val (.str ⟨#[c]⟩)) else none) = _
  rw [if_pos (by rw [tx_len]; exact h)]
  have e : atI (tx a).cps.toList (i : Int) = some a[i] := by
    unfold atI ixN tx
    simp [hi]
  rw [e]
  rfl
theorem strs_tx : ∀ l : List Nat, strsOf (l.map fun c => .str (tx [c])) = some (l.map fun c => tx [c])
  | [] => rfl
  | c :: l => by
    show (strsOf (l.map fun c => .str (tx [c]))).map (tx [c] :: ·) = _
    rw [strs_tx l]
    rfl
theorem join_tx : ∀ l : List Nat, Txt.join "" (l.map fun c => tx [c]) = tx l := by
  intro l
  rw [TL.join_eq]
  have e0 : ("" : Str) = tx [] := rfl
  rw [e0]
  induction l with
  | nil => rfl
  | cons c l ih =>
    cases l with
    | nil => rfl
    | cons d l =>
      show tx [c] ++ tx [] ++ Str.join (tx []) ((d :: l).map fun c => tx [c]) = _
      rw [ih, tx_app, tx_app]
      rfl
theorem joinD_tx {l : List Nat} (h : l.length ≤ 1000) : joinD "" (.list (l.map fun c => .str (tx [c]))) = some (.val (.str (tx l))) := by
  show (match strsOf (l.map fun c => .str (tx [c])) with
    | none => none
    | some ys => if (ys.map Str.length).sum + ys.length * ("" : Str).length ≤ 16777216 then some (OR.val (.str (Txt.join "" ys))) else none) = _
  rw [strs_tx]
  dsimp only
  have e : ((l.map fun c => tx [c]).map Str.length).sum = l.length := by
    clear h
    induction l with
    | nil => rfl
    | cons c l ih =>
      rw [List.map_cons, List.map_cons, List.sum_cons, ih, tx_len]
      simp only [List.length_cons, List.length_nil]
      omega
  rw [if_pos, join_tx]
  rw [e, List.length_map]
  have z : ("" : Str).length = 0 := rfl
  rw [z]
  omega
end Px
/-! PxY: is None, == and in of anything, lists' truth -/
namespace Px
open PySem PySem.Spec PyProof.Rows L2 PySem.SeqAt

/-! ### {} beside a text -/
section
variable {A : Around} {s : Shared}
theorem dict_declines_str (l : Addr) (es : Array DictEntry) (n : Nat) (b : Str) (u : Tok) :
    Meets (Builtin.«dict.__eq__» ⟨[.ref l, .str b u], []⟩) (fun _ R s => (∃ o, s.heap.get? l = some o ∧ o.cls = .type "dict" ∧ o.data = .dict es n) ∧ R (.ok (.ret .notImplemented)) s) :=
  .of_wp fun prog w A R s h => by
    obtain ⟨hp, g, d, tk, os⟩ := s
    obtain ⟨⟨o, hl, hc, hd⟩, h⟩ := h
    obtain ⟨oc, od, odt, osl⟩ := o
    dsimp only at hc hd
    subst hc hd
    have f1 : isSubtype (.type "str") (.type "dict") = pure false := by rw [isSubtype_type]; kernel_rfl
    wp_walk using wpAny_loadPart' hl
    exact ⟨_, rfl, h⟩
theorem str_declines_dict (b : Str) (u : Tok) (l : Addr) (es : Array DictEntry) (n : Nat) :
    Meets (Builtin.«str.__eq__» ⟨[.str b u, .ref l], []⟩) (fun _ R s => (∃ o, s.heap.get? l = some o ∧ o.cls = .type "dict" ∧ o.data = .dict es n) ∧ R (.ok (.ret .notImplemented)) s) :=
  .of_wp fun prog w A R s h => by
    obtain ⟨hp, g, d, tk, os⟩ := s
    obtain ⟨⟨o, hl, hc, hd⟩, h⟩ := h
    obtain ⟨oc, od, odt, osl⟩ := o
    dsimp only at hc hd
    subst hc hd
    wp_walk using wpAny_loadPart' hl, wpAny_load hl
    exact ⟨_, rfl, h⟩
theorem rc_dict_str {l : Addr} (es : Array DictEntry) (n : Nat) (b : Str) (u : Tok) (hl : ∃ o, s.heap.get? l = some o ∧ o.cls = .type "dict" ∧ o.data = .dict es n) (hu : A.units < cLine) : RcAt A s (.ref l) (.str b u) false := fun prog w E Q h => by
  obtain ⟨o, ho, hc, hd⟩ := id hl
  exact rc_eq_decline_or (k := false) ⟨_, ho, hc⟩ (typeIs_str s b u) (by decide) (by rw [isSubtype_type]; kernel_rfl) F.slot_dict_eq F.slot_str_eq_refl
    (fun _ hq => call_meets F.slot_dict_eq ⟨_, ho, hc⟩ F.entry_dict_eq (F.args_dict_eq_2 _ _) (dict_declines_str l es n b u) ⟨hl, hq⟩)
    (fun _ hq => call_meets F.slot_str_eq_refl (typeIs_str s b u) F.entry_str_eq (F.args_str_eq_2 _ _) (str_declines_dict b u l es n) ⟨hl, hq⟩)
    (fun _ hq => wpAny_of_eq (rfl : isSame (.ref l) (.str b u) = pure false) hq) (.inr hu) h
theorem rc_str_dict {l : Addr} (es : Array DictEntry) (n : Nat) (b : Str) (u : Tok) (hl : ∃ o, s.heap.get? l = some o ∧ o.cls = .type "dict" ∧ o.data = .dict es n) (hu : A.units < cLine) : RcAt A s (.str b u) (.ref l) false := fun prog w E Q h => by
  obtain ⟨o, ho, hc, hd⟩ := id hl
  exact rc_eq_decline_or (k := false) (typeIs_str s b u) ⟨_, ho, hc⟩ (by decide) (by rw [isSubtype_type]; kernel_rfl) F.slot_str_eq F.slot_dict_eq_refl
    (fun _ hq => call_meets F.slot_str_eq (typeIs_str s b u) F.entry_str_eq (F.args_str_eq_2 _ _) (str_declines_dict b u l es n) ⟨hl, hq⟩)
    (fun _ hq => call_meets F.slot_dict_eq_refl ⟨_, ho, hc⟩ F.entry_dict_eq (F.args_dict_eq_2 _ _) (dict_declines_str l es n b u) ⟨hl, hq⟩)
    (fun _ hq => wpAny_of_eq (rfl : isSame (.str b u) (.ref l) = pure false) hq) (.inr hu) h
theorem eq_str_dict {l : Addr} (es : Array DictEntry) (n : Nat) (b : Str) (u : Tok) (hl : ∃ o, s.heap.get? l = some o ∧ o.cls = .type "dict" ∧ o.data = .dict es n) (hu : A.units < cLine) : EqAt A s (.str b u) (.ref l) false := fun prog w E Q h => by
  unfold eqBool
  refine wpAny_holding (wpAny_ite_split (fun z => absurd (eq_of_beq z) nofun) fun _ => wpAny_bind (rc_str_dict es n b u hl hu prog w E _ (wpAny_truthy_bool h)))
end
section
variable {X : Cx} {ct : Gx} {W : WX}
/-- what the heap tells of a dict -/
theorem dict_seen {pins : List (Addr × Obj)} {σ : L2.St} {H : Hp} {s : Shared} {a : Addr} {kvs : List (Key × V)} (I : L2.Inv X pins σ H s) (h : Rd H a (.dK kvs)) : ∃ es n, ∃ o, s.heap.get? a = some o ∧ o.cls = .type "dict" ∧ o.data = .dict es n := by
  obtain ⟨_, hd, vs, _, dd⟩ := dk_rd I.hok h
  obtain ⟨o, es, n, h1, h2, h3, _⟩ := dd
  exact ⟨es, n, o, h1, h2.1, h3⟩
/-- a dict, a list, a tuple -/
def Box (K : PySem.W.Frag) (H : Hp) (a : Addr) : Prop := (∃ kvs, Rd H a (.dK kvs)) ∨ (∃ xs, SqL K H a xs) ∨ ∃ xs, SqT K H a xs
theorem Box.rc {pins : List (Addr × Obj)} {σ : L2.St} {H : Hp} {s : Shared} {a : Addr} (I : L2.Inv X pins σ H s) (h : Box X.K H a) {A : Around} (hu : A.units < cLine) (b : Str) (t : Tok) : RcAt A s (.ref a) (.str b t) false ∧ EqAt A s (.str b t) (.ref a) false := by
  rcases h with ⟨kvs, h⟩ | ⟨xs, h⟩ | ⟨xs, h⟩
  · obtain ⟨es, n, ho⟩ := dict_seen I h
    exact ⟨rc_dict_str es n b t ho hu, eq_str_dict es n b t ho hu⟩
  · obtain ⟨its, _, p, _⟩ := I.list h
    exact ⟨RcAt.list_str b t p.isList hu, EqAt.str_list b t p.isList hu⟩
  · obtain ⟨its, _, p, _⟩ := I.tuple h
    exact ⟨RcAt.tuple_str b t (show s.heap.IsTuple a its.toArray from p) hu, EqAt.str_tuple b t (show s.heap.IsTuple a its.toArray from p) hu⟩
/-- == of one of these and a text -/
theorem op_eqDS (hu : X.A.units < cLine) : OpR X (compareOp .Eq) (fun x y H Q => ∃ a b, x = .ref a ∧ y = .str b ∧ Box X.K H a ∧ Q (.bl false) H) := by
  intro pins s σ H x y v u Q I rx ry h
  obtain ⟨a, b, rfl, rfl, hr, q⟩ := h
  cases (show v = Value.ref a from rx)
  obtain ⟨t, rfl⟩ := ry
  exact (hr.rc I hu b t).1 _ _ _ _ ⟨.bl false, H, I, rfl, q⟩
def isBox : PyData → Bool
  | .dict _ => true
  | .list _ => true
  | .tuple _ => true
  | _ => false
theorem Bp.box {F : Addr → Prop} {H : Hp} {x : V} {d : PyData} (h : isBox d = true) (b : Bp X.K F H x d) : ∃ a, x = .ref a ∧ Box X.K H a := by
  cases d with
  | dict _ =>
    obtain ⟨a, vs, rfl, hr, _⟩ := b.dic_
    exact ⟨a, rfl, .inl ⟨vs, hr⟩⟩
  | list _ =>
    obtain ⟨a, vs, rfl, hr, _⟩ := b.list_
    exact ⟨a, rfl, .inr (.inl ⟨vs, hr⟩)⟩
  | tuple _ =>
    obtain ⟨a, vs, rfl, hr, _⟩ := b.tup_
    exact ⟨a, rfl, .inr (.inr ⟨vs, hr⟩)⟩
  | _ => cases h
def isS : PyData → Bool
  | .str _ => true
  | _ => false
def eqX : PyData → PyData → Option Bool := fun a b => if (isBox a && isS b) = true then some false else eqE a b
theorem rel_eqX (hu : X.A.units + 64 < cLine) : RelD X .Eq eqX := by
  obtain ⟨r, o, k⟩ := rel_eqE hu
  refine ⟨_, op_or (op_eqDS (by omega)) o, fun F H x y d1 d2 b Q b1 b2 e q => ?_⟩
  unfold eqX at e
  split at e
  · rename_i h
    cases e
    rw [Bool.and_eq_true] at h
    obtain ⟨a, rfl, hr⟩ := b1.box h.1
    cases d2 with
    | str z =>
      cases b2.str_
      exact .inl ⟨a, _, rfl, rfl, hr, q⟩
    | _ => exact nomatch h.2
  · exact .inr (k F H x y _ _ b Q b1 b2 e q)
/-- in a tuple, deep -/
theorem op_inT (hu : X.A.units + 65 < cLine) : OpR X (compareOp .In) (fun x y H Q => ∃ d ds, Dp X.K H x d ∧ Dp X.K H y (.tuple ds) ∧ shaped d = true ∧ shaped (.tuple ds) = true ∧ Q (.bl (ds.any fun z => PyData.eqv z d)) H) := by
  intro pins s σ H x y v u Q I rx ry h
  obtain ⟨d, ds, hd, he, sd, se, q⟩ := h
  obtain ⟨as, r1⟩ := Dp.reads I d x v hd rx
  obtain ⟨bs, r2⟩ := Dp.reads I (.tuple ds) y u he ry
  exact in_tuple_reads r2 r1 (canLay_of_shaped se) (canLay_of_shaped sd) (room_in_shaped sd hu) ⟨.bl _, H, I, rfl, q⟩
/-- one of these in a tuple of texts -/
theorem op_inDS (hu : X.A.units + 1 < cLine) : OpR X (compareOp .In) (fun x y H Q => ∃ (a : Addr) (b : Addr) (bs : List Str), x = .ref a ∧ Box X.K H a ∧ y = .ref b ∧ SqT X.K H b (bs.map V.str) ∧ Q (.bl false) H) := by
  intro pins s σ H x y v u Q I rx ry h
  obtain ⟨a, b, bs, rfl, hr, rfl, hs, q⟩ := h
  cases (show v = Value.ref a from rx)
  cases (show u = Value.ref b from ry)
  obtain ⟨its, rv, ht, _⟩ := I.tuple hs
  have hu' : X.A.in1.units < cLine := hu
  refine in_tupleAt (fun _ => false) (items := its.toArray) ht (fun y hy => ?_) ?_
  · obtain ⟨w, hw, rw'⟩ := paired_mem rv y (by simpa using hy)
    obtain ⟨c, _, rfl⟩ := List.mem_map.mp hw
    obtain ⟨t, rfl⟩ := rw'
    exact (hr.rc I hu' c t).2
  · have z : its.toArray.any (fun _ => false) = false := by simp
    rw [z]
    exact ⟨.bl false, H, I, rfl, q⟩
def strsOfL : List PyData → Option (List Str)
  | [] => some []
  | .str s :: r => match strsOfL r with
    | some l => some (s :: l)
    | none => none
  | _ => none
theorem strs_rpaL {K : PySem.W.Frag} {F : Addr → Prop} {H : Hp} : ∀ {ds : List PyData} {l : List Str} {vs : List V}, strsOfL ds = some l → RpA K F H vs ds → vs = l.map V.str
  | [], l, _, e, r => by cases e; cases r; rfl
  | .str s :: ds, l, _, e, r => by
    unfold strsOfL at e
    cases h : strsOfL ds with
    | none => rw [h] at e; cases e
    | some l' =>
      rw [h] at e
      cases e
      cases r with
      | cons a b =>
        cases a
        rw [strs_rpaL h b]
        rfl
  | .none :: _, _, _, e, _ => nomatch e
  | .bool _ :: _, _, _, e, _ => nomatch e
  | .int _ :: _, _, _, e, _ => nomatch e
  | .list _ :: _, _, _, e, _ => nomatch e
  | .tuple _ :: _, _, _, e, _ => nomatch e
  | .dict _ :: _, _, _, e, _ => nomatch e
/-- in: of anything, deep -/
def inX : PyData → PyData → Option Bool
  | x, .tuple ds => if (isBox x && (strsOfL ds).isSome) = true then some false else if (okEq x && okEq (.tuple ds)) = true then some (ds.any fun z => PyData.eqv z x) else inD x (.tuple ds)
  | x, y => inD x y
theorem rel_inX (hu : X.A.units + 65 < cLine) : RelD X .In inX := by
  obtain ⟨r, o, k⟩ := rel_in hu
  refine ⟨_, op_or (op_inDS (by omega)) (op_or (op_inT hu) o), fun F H x y d1 d2 b Q b1 b2 e q => ?_⟩
  unfold inX at e
  split at e
  · split at e
    · rename_i h
      cases e
      rw [Bool.and_eq_true] at h
      obtain ⟨a, rfl, hr⟩ := b1.box h.1
      obtain ⟨l, hl⟩ := Option.isSome_iff_exists.mp h.2
      obtain ⟨c, ws, rfl, hs, hw⟩ := b2.tup_
      rw [strs_rpaL hl hw] at hs
      exact .inl ⟨a, c, _, rfl, hr, rfl, hs, q⟩
    · split at e
      · rename_i h
        cases e
        rw [Bool.and_eq_true] at h
        obtain ⟨s1, n1⟩ := b1.shaped h.1
        obtain ⟨s2, n2⟩ := b2.shaped h.2
        exact .inr (.inl ⟨_, _, b1.dp n1, b2.dp n2, s1, s2, q⟩)
      · exact .inr (.inr (k F H x y _ _ b Q b1 b2 e q))
  · exact .inr (.inr (k F H x y _ _ b Q b1 b2 e q))
/-- is None -/
def isND : PyData → PyData → Option Bool
  | .none, .none => some true
  | _, .none => some false
  | _, _ => none
theorem rel_isN : RelD X .Is isND := ⟨_, op_isN, fun F H x y d1 d2 b Q b1 b2 e q => by
  unfold isND at e
  split at e
  · cases e
    cases b1.non_
    cases b2.non_
    exact ⟨rfl, by simpa using q⟩
  · rename_i hne
    cases e
    cases b2.non_
    refine ⟨rfl, ?_⟩
    have : decide (x = V.non) = false := by
      refine decide_eq_false fun z => ?_
      subst z
      cases d1 with
      | none => exact hne rfl
      | bool _ => cases b1.bl_
      | int _ => cases b1.int_
      | str _ => cases b1.str_
      | list _ => obtain ⟨_, _, h, _⟩ := b1.list_; cases h
      | tuple _ => obtain ⟨_, _, h, _⟩ := b1.tup_; cases h
      | dict _ => obtain ⟨_, _, h, _⟩ := b1.dic_; cases h
    rw [this]
    exact q
  · cases e⟩
/-! ### whether a list is empty -/
end
end Px
/-! PxZ: dicts of texts: made of pairs, told, asked, sorted -/
namespace Px
open PySem PySem.Spec PyProof.Rows L2
section
variable {X : Cx}
theorem pairs_at {pins : List (Addr × Obj)} {σ : L2.St} {H : Hp} {s : Shared} (I : L2.Inv X pins σ H s) : ∀ {ps : List Addr} {kvs : List (Key × V)}, Paired (fun p kv => SqT X.K H p [kV kv.1, kv.2]) ps kvs →
    ∃ (prs : List (Key × Value)) (vps : List (Value × Value)), KV kvs prs ∧ prs.length = ps.length ∧ vps.length = ps.length ∧ ∀ (j : Nat) (k v : Value), vps[j]? = some (k, v) → ∃ (b : Addr) (kk : Key), ps[j]? = some b ∧ s.heap.IsTuple b #[k, v] ∧ prs[j]? = some (kk, v) ∧ keyIs kk k = true
  | _, _, .nil => ⟨[], [], .nil, rfl, rfl, fun j k v e => by simp at e⟩
  | _, _, .cons (a := p) (b := kv) h t => by
    obtain ⟨prs, vps, r, hl, hl2, hp⟩ := pairs_at I t
    obtain ⟨its, rv, ht, _⟩ := I.tuple h
    obtain ⟨u, y, ei, ru, ry⟩ := vals2 rv
    subst ei
    refine ⟨(kv.1, y) :: prs, (u, y) :: vps, .cons ⟨rfl, ry⟩ r, by simp [hl], by simp [hl2], fun j k v e => ?_⟩
    cases j with
    | zero =>
      cases (Option.some.inj e : (u, y) = (k, v))
      exact ⟨p, kv.1, rfl, ht, rfl, kV_is (P := X.prog) (w := X.w) ru⟩
    | succ j =>
      obtain ⟨b, kk, e1, e2, e3, e4⟩ := hp j k v (by simpa using e)
      exact ⟨b, kk, by simpa using e1, e2, by simpa using e3, e4⟩
/-- dict(t), a tuple of pairs -/
theorem call_dictT (hcalm : X.calm = true) : CallR X (.type "dict") (fun xs H Q => ∃ (a : Addr) (ps : List Addr) (kvs : List (Key × V)) (F : Addr → Prop), xs = [.ref a] ∧ FzT X.K F H a (ps.map V.ref) ∧ Paired (fun p kv => SqT X.K H p [kV kv.1, kv.2]) ps kvs ∧ ∀ p, H p = none → Q (.ref p) (upd H p (.dK (mergeK [] kvs)))) := by
  intro pins s σ H xs us Q I r q
  obtain ⟨a, ps, kvs, F, rfl, hq, hp, q⟩ := q
  obtain ⟨u, rfl, rx⟩ := vals1 r
  cases (show u = Value.ref a from rx)
  obtain ⟨o, n, its, ho, hc, hd, hdat, rv, hz⟩ : ∃ (o : Obj) (n : Nat) (its : Array Value), s.heap.get? a = some o ∧ o.cls = .type "tuple" ∧ o.dict = none ∧ o.data = .seq its n ∧ Vals (ps.map V.ref) its.toList ∧ its.size ≤ sizeLine := by
    rcases hq with ⟨f, o, h, d⟩ | ⟨o, its, n, h1, h2, h3, h4, h5, h6⟩
    · have z : s.heap.get? a = some o ∧ ObjOk X.prog X.w H s.heap a (.tup (ps.map V.ref)) := I.hok a _ h
      obtain ⟨g, hz, its, rv, o', g', hc, n, hdat⟩ := z
      rw [g] at g'
      cases g'
      exact ⟨o, n, its.toArray, g, hc, d, hdat, by simpa using rv, by rw [List.size_toArray, ← rv.length]; exact hz⟩
    · exact ⟨o, n, its, I.kIn a o h1, h2, h3, h4, h6, h5⟩
  have ei := refs_at rv
  obtain ⟨prs, vps, rel, hl, hl2, hpr⟩ := pairs_at I hp
  have hsize : its.size = ps.length := by rw [← Array.length_toList, ei, List.length_map]
  have hm : (s.heap.objs.size == sysModules) = false := beq_eq_false_iff_ne.mpr (Nat.ne_of_gt I.big)
  have hlen : (mergeK [] kvs).length ≤ sizeLine := by
    refine Nat.le_trans (length_mergeK kvs []) ?_
    rw [List.length_nil, Nat.zero_add, rel.length, hl, ← hsize]
    exact hz
  refine _root_.PySem.call_dict_pairs (knd := mixKind X.prog X.w) (kvs := prs) (PairArg.tuple (prog := X.prog) (w := X.w) a its (fun j => (ps[j]?).getD 0) vps) (I.ok.hd hcalm) ⟨⟨o, n, ho, hc, hd, hdat⟩, by rw [hsize, hl2], fun j k v e => ?_⟩ ⟨by rw [hl, hl2], fun i key v e => ?_⟩ (by rw [hl2, ← hsize]; exact hz) fun h' tk hd' k => ?_
  · obtain ⟨b, kk, e1, e2, _⟩ := hpr j k v e
    refine ⟨?_, ?_⟩
    · have z : ps[j]?.getD 0 = b := by rw [e1]; rfl
      rw [← Array.getElem?_toList, ei, List.getElem?_map, e1]
      show some (Value.ref b) = some (Value.ref (ps[j]?.getD 0))
      rw [z]
    · show PairAt s.heap (ps[j]?.getD 0) k v
      rw [e1]
      exact .inl e2
  · obtain ⟨b, kk, e1, e2, e3, e4⟩ := hpr i key v e
    exact ⟨kk, e3, e4⟩
  · exact ⟨.ref s.heap.objs.size, upd H s.heap.objs.size (.dK (mergeK [] kvs)), I.laid (t' := tk) (fun b o e => k b o (fun z => nomatch z) e) (Nat.le_refl _) (show ObjOk X.prog X.w _ _ _ (.dK (mergeK [] kvs)) from ⟨hlen, hm, merged [] prs, KV.merge rel .nil, hd'⟩), rfl, q _ (I.hok.fresh (Nat.le_refl _))⟩
end

/-! ### dicts of data, key by key -/
def keyS : PyData → Option Key
  | .str s => some (.inr s)
  | .int i => some (.inl i)
  | _ => none
theorem keyS_D (k : Key) : keyS (keyD k) = some k := by cases k <;> rfl
def valD (k : Key) : List (PyData × PyData) → Option PyData
  | [] => none
  | (d, v) :: r => if keyS d = some k then some v else valD k r
def hasD (k : Key) (l : List (PyData × PyData)) : Bool := l.any fun p => decide (keyS p.1 = some k)
def repD (k : Key) (v : PyData) : List (PyData × PyData) → List (PyData × PyData)
  | [] => []
  | (d, w) :: r => (if keyS d = some k then (d, v) else (d, w)) :: repD k v r
def putD (k : Key) (v : PyData) (l : List (PyData × PyData)) : List (PyData × PyData) := if hasD k l = true then repD k v l else l ++ [(keyD k, v)]
section
variable {K : PySem.W.Frag} {F : Addr → Prop} {H : Hp}
theorem RpD.len : ∀ {vs : List (Key × V)} {ds : List (PyData × PyData)}, RpD K F H vs ds → vs.length = ds.length
  | _, _, .nil => rfl
  | _, _, .cons _ r => congrArg (· + 1) (RpD.len r)
theorem RpD.val {k : Key} : ∀ {vs : List (Key × V)} {ds : List (PyData × PyData)}, RpD K F H vs ds → (valV vs k = none ∧ valD k ds = none) ∨ ∃ v d, valV vs k = some v ∧ valD k ds = some d ∧ Rp K F H v d
  | _, _, .nil => .inl ⟨rfl, rfl⟩
  | _, _, .cons (k := k0) (v := v) (vs := vs) (d := d) (ds := ds) a r => by
    by_cases e : k0 = k
    · subst e
      refine .inr ⟨v, d, valV_pos rfl, ?_, a⟩
      show (if keyS (keyD k0) = some k0 then some d else _) = _
      rw [if_pos (keyS_D k0)]
    · have e1 : valV ((k0, v) :: vs) k = valV vs k := valV_neg e
      have e2 : valD k ((keyD k0, d) :: ds) = valD k ds := by
        show (if keyS (keyD k0) = some k then some d else valD k ds) = _
        rw [if_neg (by rw [keyS_D]; intro z; exact e (Option.some.inj z))]
      rw [e1, e2]
      exact RpD.val r
theorem RpD.has {k : Key} : ∀ {vs : List (Key × V)} {ds : List (PyData × PyData)}, RpD K F H vs ds → (vs.any fun kv => decide (kv.1 = k)) = hasD k ds
  | _, _, .nil => rfl
  | _, _, .cons (k := k0) (v := v) (vs := vs) (d := d) (ds := ds) a r => by
    have e : decide (k0 = k) = decide (keyS (keyD k0) = some k) := by
      rw [keyS_D]
      by_cases z : k0 = k
      · rw [decide_eq_true z, decide_eq_true (by rw [z])]
      · rw [decide_eq_false z, decide_eq_false (fun q => z (Option.some.inj q))]
    show (decide (k0 = k) || vs.any _) = (decide (keyS (keyD k0) = some k) || ds.any _)
    rw [e, RpD.has r]
    rfl
theorem RpD.rep {k : Key} {v : V} {d : PyData} (x : Rp K F H v d) : ∀ {vs : List (Key × V)} {ds : List (PyData × PyData)}, RpD K F H vs ds → RpD K F H (vs.map fun kv => if kv.1 = k then (kv.1, v) else kv) (repD k d ds)
  | _, _, .nil => .nil
  | _, _, .cons (k := k0) (v := w) (vs := vs) (d := e) (ds := ds) a r => by
    show RpD K F H ((if k0 = k then (k0, v) else (k0, w)) :: _) ((if keyS (keyD k0) = some k then (keyD k0, d) else (keyD k0, e)) :: repD k d ds)
    by_cases z : k0 = k
    · rw [if_pos z, if_pos (by rw [keyS_D, z])]
      exact .cons x (RpD.rep x r)
    · rw [if_neg z, if_neg (by rw [keyS_D]; intro q; exact z (Option.some.inj q))]
      exact .cons a (RpD.rep x r)
theorem RpD.snoc {k : Key} {v : V} {d : PyData} (x : Rp K F H v d) : ∀ {vs : List (Key × V)} {ds : List (PyData × PyData)}, RpD K F H vs ds → RpD K F H (vs ++ [(k, v)]) (ds ++ [(keyD k, d)])
  | _, _, .nil => .cons x .nil
  | _, _, .cons a r => .cons a (RpD.snoc x r)
theorem RpD.put {k : Key} {v : V} {d : PyData} {vs : List (Key × V)} {ds : List (PyData × PyData)} (r : RpD K F H vs ds) (x : Rp K F H v d) : RpD K F H (putK vs k v) (putD k d ds) := by
  unfold putK putD
  rw [r.has]
  by_cases h : hasD k ds = true
  · rw [if_pos h, if_pos h]
    exact r.rep x
  · rw [if_neg h, if_neg h]
    exact r.snoc x
theorem RpD.merge : ∀ {more : List (Key × V)} {mds : List (PyData × PyData)} {vs : List (Key × V)} {ds : List (PyData × PyData)}, RpD K F H more mds → RpD K F H vs ds → RpD K F H (mergeK vs more) (mds.foldl (fun acc p => match keyS p.1 with | some k => putD k p.2 acc | none => acc) ds)
  | _, _, _, _, .nil, r => r
  | _, _, vs, ds, .cons (k := k0) (v := v) (vs := more) (d := d) (ds := mds) a r, q => by
    show RpD K F H (mergeK (putK vs k0 v) more) (mds.foldl _ (match keyS (keyD k0) with | some k => putD k d ds | none => ds))
    rw [keyS_D]
    exact RpD.merge r (q.put a)
/-- pairs of a tuple, keys by texts -/
def pairsD : List PyData → Option (List (PyData × PyData))
  | [] => some []
  | .tuple [.str s, v] :: r => match pairsD r with
    | some l => some ((.str s, v) :: l)
    | none => none
  | _ => none
end
section
variable {X : Cx} {ct : Gx} {W : WX}
theorem pairs_rp {F : Addr → Prop} {H : Hp} : ∀ {ds : List PyData} {l : List (PyData × PyData)} {vs : List V}, pairsD ds = some l → RpA X.K F H vs ds → ∃ (ps : List Addr) (kvs : List (Key × V)), vs = ps.map V.ref ∧ Paired (fun p kv => SqT X.K H p [kV kv.1, kv.2]) ps kvs ∧ RpD X.K F H kvs l
  | [], l, _, e, r => by
    cases e
    cases r
    exact ⟨[], [], rfl, .nil, .nil⟩
  | d :: ds, l, _, e, r => by
    cases r with
    | cons a b =>
      unfold pairsD at e
      split at e
      · cases ‹_ = []›
      · rename_i s v r' he
        cases he
        split at e
        · rename_i l' hl
          cases e
          obtain ⟨ps, kvs, e1, e2, e3⟩ := pairs_rp hl b
          cases a with
          | tup f ra =>
            cases ra with
            | cons a1 ra =>
              cases ra with
              | cons a2 ra =>
                cases ra
                cases a1 with
                | str _ hs =>
                  refine ⟨_ :: ps, (.inr s, _) :: kvs, by rw [e1]; rfl, .cons f.sq e2, .cons a2 e3⟩
        · cases e
      · cases e

def mkD (l : List (PyData × PyData)) : List (PyData × PyData) := l.foldl (fun acc p => match keyS p.1 with | some k => putD k p.2 acc | none => acc) []
def dictD : List PyData → Option OR
  | [.tuple ds] => match pairsD ds with
    | some l => some (.new (.dic (mkD l)))
    | none => none
  | _ => none
theorem call_dictA (hc : X.calm = true) : CallD X (.type "dict") dictD := ⟨_, call_dictT hc, fun F H xs ds o Q dm b e gv => by
  unfold dictD at e
  split at e
  · split at e
    · rename_i l hl
      cases e
      replace b := bps1 b
      obtain ⟨v, rfl, b⟩ := b
      cases b with
      | rp t =>
        cases t with
        | tup f r =>
          obtain ⟨ps, kvs, rfl, e2, e3⟩ := pairs_rp hl r
          refine ⟨_, ps, kvs, F, rfl, f, e2, fun p hp => ?_⟩
          have px : PEx F H F (upd H p (.dK (mergeK [] kvs))) := PEx.neu dm hp
          exact gv p _ hp px ⟨_, upd_same, (RpD.merge e3 .nil).up (px.fr dm)⟩
    · cases e
  · cases e⟩
/-- o.get(k, d) -/
def eGet (f g h : FE) : FE := fun sl st => match f sl st with
  | .fail => .fail
  | .exc x st1 => .exc x st1
  | .ok e1 st1 => match e1.dat st1 with
    | some (.dict _) => match g sl st1 with
      | .fail => .fail
      | .exc x st2 => .exc x st2
      | .ok e2 st2 => match h sl st2 with
        | .fail => .fail
        | .exc x st3 => .exc x st3
        | .ok e3 st3 => match e1.dat st3, e2.dat st3, e3 with
          | some (.dict kvs), some (.str k), .val d => .ok (.val ((valD (.inr k) kvs).getD d)) st3
          | _, _, _ => .fail
    | _ => .fail
end
end Px
/-! PxZ2: rules for dicts, pop, extend -/
namespace Px
open PySem PySem.Spec PyProof.Rows L2
section
variable {X : Cx} {ct : Gx} {W : WX}
theorem se_get {o e f : Expr} {apos cpos : Pos} {fo fe ff : FE} (hu : X.A.units + 1 < cLine) (ho : SE X ct W o fo) (he : SE X ct W e fe) (hf : SE X ct W f ff) (m : M2 X o "get" apos e f cpos) : SE X ct W (.Call (.Attribute o "get" apos) [e, f] [] cpos) (eGet fo fe ff) := by
  intro B hB hc sl st
  refine pe_imp (pe_dget2 hu (ho.all hB hc) (he.all hB hc) (hf.all hB hc) m) fun σ H Q ⟨ω, s, q⟩ => ⟨sl, st, ω, s, ?_⟩
  unfold eGet at q
  cases h1 : fo sl st with
  | fail => rw [h1] at q; exact q
  | exc x st1 => rw [h1] at q; exact q
  | ok e1 st1 =>
    rw [h1] at q
    dsimp only at q
    intro v ω1 H1 x1 s1 hv
    cases hd : e1.dat st1 with
    | none => rw [hd] at q; exact q.elim
    | some d0 =>
      rw [hd] at q
      cases d0 with
      | dict kv0 =>
        dsimp only at q
        have b0 := VR.bp s1 hv hd
        rw [hB] at b0
        obtain ⟨a, vs0, rfl, hr0, _⟩ := b0.dic_
        obtain ⟨ω1', x1', s1', hv'⟩ := VR.soft s1 hv
        refine ⟨a, rfl, .inl ⟨vs0, hr0⟩, sl, st1, ω1', s1', ?_⟩
        cases h2 : fe sl st1 with
        | fail => rw [h2] at q; exact q
        | exc x st2 => rw [h2] at q; exact fun cls d ω' H' e s' => q cls d ω' H' ((x1.trans x1').trans e) s'
        | ok e2 st2 =>
          rw [h2] at q
          dsimp only at q
          intro y ω2 H2 x2 s2 hy
          obtain ⟨ω2', x2', s2', hy'⟩ := VR.soft s2 hy
          refine ⟨sl, st2, ω2', s2', ?_⟩
          have x12 := ((x1.trans x1').trans x2).trans x2'
          cases h3 : ff sl st2 with
          | fail => rw [h3] at q; exact q
          | exc x st3 => rw [h3] at q; exact fun cls d ω' H' e s' => q cls d ω' H' (x12.trans e) s'
          | ok e3 st3 =>
            rw [h3] at q
            dsimp only at q
            intro z ω3 H3 x3 s3 hz
            have hv3 := VR.up x3 (VR.up x2' (VR.up x2 hv'))
            have hy3 := VR.up x3 hy'
            cases d1 : e1.dat st3 with
            | none => rw [d1] at q; exact q.elim
            | some dd1 =>
              cases d2 : e2.dat st3 with
              | none => rw [d1, d2] at q; cases dd1 <;> exact q.elim
              | some dd2 =>
                rw [d1, d2] at q
                cases dd1 <;> cases dd2 <;> first | exact q.elim | skip
                rename_i kvs k
                cases e3 with
                | bor n => exact q.elim
                | new o => exact q.elim
                | lost => exact q.elim
                | val d =>
                  dsimp only at q
                  have bb := VR.bp s3 hv3 (by rw [EV.soft_dat]; exact d1)
                  have bk := VR.bp s3 hy3 (by rw [EV.soft_dat]; exact d2)
                  rw [hB] at bb bk
                  obtain ⟨a', vs, ea, hr, rd⟩ := bb.dic_
                  cases (V.ref.inj ea)
                  cases bk.str_
                  refine ⟨valV vs (.inr k), .inl ⟨vs, .inr k, hr, rfl, rfl⟩, ?_⟩
                  rcases rd.val (k := .inr k) with ⟨n1, n2⟩ | ⟨w, dw, n1, n2, n3⟩
                  · rw [n1]
                    rw [n2] at q
                    exact q z ω3 H3 (x12.trans x3) s3 hz
                  · rw [n1]
                    rw [n2] at q
                    exact q w ω3 H3 (x12.trans x3) s3 (by show Rp B.K ω3.F H3 w dw; rw [hB]; exact n3)
      | _ => exact q.elim
/-- d[k] -/
def keyD2 : PyData → PyData → Option OR
  | .dict kvs, .str k => (valD (.inr k) kvs).map .val
  | _, _ => none
theorem se_key {o i : Expr} {f g : FE} {pos : Pos} (hu : X.A.units + 1 < cLine) (ho : SE X ct W o f) (hi : SE X ct W i g) (hs : NoSl i := by intro _ _; rfl) : SE X ct W (.Subscript o i pos) (u2 keyD2 f g) := by
  refine se_u2 (r := fun x y H Q => ∃ a v, x = .ref a ∧ DGet H a y (some v) ∧ Q v H) (fun ta tb ha hb => pe_dget hu ha hb hs) ho hi fun F H x y d1 d2 o Q dm b1 b2 e gv => ?_
  unfold keyD2 at e
  split at e
  · rename_i kvs k
    obtain ⟨a, vs, rfl, hr, rd⟩ := b1.dic_
    cases b2.str_
    rcases rd.val (k := .inr k) with ⟨n1, n2⟩ | ⟨w, dw, n1, n2, n3⟩
    · rw [n2] at e; cases e
    · rw [n2] at e
      cases e
      exact ⟨a, w, rfl, .inl ⟨vs, .inr k, hr, rfl, n1.symm⟩, gv.here dm n3⟩
  · cases e
/-- the dict that a cell holds, where it may be changed -/
def dicAt (st : Sto) (n : Nat) : Option (List (PyData × PyData)) := match st[n]? with
  | some (.live (.dic xs)) => some xs
  | some (.io (.dic xs)) => some xs
  | _ => none
theorem dicAt_ok {B : Bs} {ω : Wd} {H : Hp} {σ : L2.St} {sl : Sls} {st : Sto} {n : Nat} {p : Addr} {xs : List (PyData × PyData)} (s : SR B ω H σ sl st) (hp : ω.ad[n]? = some p) (h : dicAt st n = some xs) :
    ∃ c vs, st[n]? = some c ∧ ((∀ d, c ≠ .fz d) ∧ ∀ kvs, c ≠ .kd kvs) ∧ ¬ ω.F p ∧ H p = some (.dK vs) ∧ RpD B.K ω.F H vs xs := by
  unfold dicAt at h
  split at h
  · rename_i ys hc
    cases h
    obtain ⟨q1, vs, q2, q3⟩ := s.cell n _ p hc hp
    exact ⟨_, vs, hc, ⟨(fun d z => nomatch z), (fun d z => nomatch z)⟩, q1, q2, q3⟩
  · rename_i ys hc
    cases h
    obtain ⟨q1, vs, q2, q3⟩ := s.cell n _ p hc hp
    exact ⟨_, vs, hc, ⟨(fun d z => nomatch z), (fun d z => nomatch z)⟩, q1, q2, q3⟩
  · cases h
/-- d[k] = v -/
def sSetKey (fv fo fk : FE) : FS := fun sl st => match fv sl st with
  | .fail => .fail
  | .exc x st1 => .exc x sl st1
  | .ok ev st1 => match ev.fix st1 with
    | none => .fail
    | some (d, st2) => match fo sl st2 with
      | .ok (.bor n) st3 => match fk sl st3 with
        | .ok (.val (.str k)) st4 => match dicAt st4 n with
          | none => .fail
          | some kvs => if kvs.length < Lim then .nx sl (putAt st4 n (.dic (putD (.inr k) d kvs))) else .fail
        | _ => .fail
      | _ => .fail
theorem ss_setKey {o i e : Expr} {fv fo fk : FE} {pos p2 : Pos} (hu : X.A.units + 1 < cLine) (hv : SE X ct W e fv) (ho : SE X ct W o fo) (hi : SE X ct W i fk) (hs : swapsWith e (some (.Subscript o i p2)) pos.line X.env = pure false := by rfl) : SS X ct W (.Assign [.Subscript o i p2] e pos) (sSetKey fv fo fk) := by
  intro B hB hc sl st
  refine ps_imp (ps_dput hu (ho.all hB hc) (hi.all hB hc) (hv.all hB hc) hs) fun D σ H ⟨ω, s, q⟩ => ⟨sl, st, ω, s, ?_⟩
  unfold sSetKey at q
  cases hf : fv sl st with
  | fail => rw [hf] at q; exact q
  | exc x st1 => rw [hf] at q; exact fun cls d ω' H' e s' r => q cls d σ ω' H' e s' r
  | ok ev st1 =>
    rw [hf] at q
    dsimp only at q
    intro v ω1 H1 x1 s1 hv1
    cases hx : ev.fix st1 with
    | none => rw [hx] at q; exact q.elim
    | some pr =>
      obtain ⟨d, st2⟩ := pr
      rw [hx] at q
      dsimp only at q
      obtain ⟨ω2, x2, s2, r2⟩ := VR.fix s1 hv1 hx
      refine ⟨sl, st2, ω2, s2, ?_⟩
      cases hfo : fo sl st2 with
      | fail => rw [hfo] at q; exact q.elim
      | exc x st3 => rw [hfo] at q; exact q.elim
      | ok ev3 st3 =>
        rw [hfo] at q
        cases ev3 with
        | val _ => exact q.elim
        | new _ => exact q.elim
        | lost => exact q.elim
        | bor n =>
          dsimp only at q
          intro ov ω3 H3 x3 s3 ho3
          obtain ⟨p, hp, rfl⟩ := ho3
          refine ⟨sl, st3, ω3, s3, ?_⟩
          cases hfi : fk sl st3 with
          | fail => rw [hfi] at q; exact q.elim
          | exc x st4 => rw [hfi] at q; exact q.elim
          | ok ev4 st4 =>
            rw [hfi] at q
            cases ev4 with
            | bor _ => exact q.elim
            | new _ => exact q.elim
            | lost => exact q.elim
            | val d4 =>
              cases d4 with
              | str k =>
                dsimp only at q
                intro iv ω4 H4 x4 s4 hi4
                have hi4' : Rp B.K ω4.F H4 iv (.str k) := hi4
                have hp4 : ω4.ad[n]? = some p := by
                  obtain ⟨t, ht⟩ := x4.ad
                  rw [← ht, List.getElem?_append_left (List.getElem?_eq_some_iff.mp hp).1]
                  exact hp
                cases hl : dicAt st4 n with
                | none => rw [hl] at q; exact q.elim
                | some kvs =>
                  rw [hl] at q
                  dsimp only at q
                  by_cases hz : kvs.length < Lim
                  · rw [if_pos hz] at q
                    obtain ⟨c4, vs, k1, k2, k3, k4, k5⟩ := dicAt_ok s4 hp4 hl
                    have fr : Fr ω4.F H4 ω4.F (upd H4 p (.dK (putK vs (.inr k) v))) := fun a h => ⟨h, upd_ne fun e => k3 (e ▸ h)⟩
                    have r4 := (r2.up x3.fr).up x4.fr
                    obtain ⟨s5, x5⟩ := s4.put (o := .dic (putD (.inr k) d kvs)) k1 hp4 k2 k3 ⟨putK vs (.inr k) v, upd_same, (k5.put r4).up fr⟩
                    unfold putAt at q
                    rw [k1] at q
                    cases hi4'
                    exact ⟨p, _, rfl, .inl ⟨vs, .inr k, k4, rfl, by rw [k5.len]; exact Nat.lt_of_lt_of_le hz lim_line, rfl⟩, q σ ω4 _ ((((x1.trans x2).trans x3).trans x4).trans x5) s5⟩
                  · rw [if_neg hz] at q; exact q.elim
              | _ => exact q.elim
end
end Px
/-! PxZ3: extend, sorted, isinstance of several, pairs walked -/
namespace Px
open PySem PySem.Spec PyProof.Rows L2
theorem list_extend_tup (l : Addr) (items : Array Value) (n : Nat) (b : Addr) (items2 : Array Value) (n2 : Nat) (dd : Option Addr) (sl : Array (Option Value)) (hs0 : ¬(!items.isEmpty && Builtin.List.listTooLong (items.size + items2.size)) = true) (hs1 : items.size ≤ sizeLine) (hs2 : items.size + items2.size ≤ sizeLine + 1) :
    Meets (Builtin.«list.extend» ⟨[.ref l, .ref b], []⟩) (fun _ R s => s.heap.get? l = some { cls := .type "list", dict := none, data := .seq items n, slots := #[] } ∧ s.heap.get? b = some { cls := .type "tuple", dict := dd, data := .seq items2 n2, slots := sl } ∧ R (.ok (.ret Value.none)) { s with heap := s.heap.update l (Obj.mapSeq fun x => x ++ items2), toks := s.toks }) :=
  .of_wp fun prog w A R s h => by
    obtain ⟨hp, g, d, tk, os⟩ := s
    obtain ⟨hl, hb, h⟩ := h
    have f2 : isSubtype (.type "tuple") (.type "tuple") = pure true := by rw [isSubtype_type]; kernel_rfl
    have f4 : isSubtype (.type "tuple") (.type "list") = pure false := by rw [isSubtype_type]; kernel_rfl
    have hz' : (items ++ items2).size ≤ sizeLine + 1 := by rw [Array.size_append]; exact hs2
    wp_walk using (wpAny_updateSeq hl rfl (hz := hs1) (_hz' := hz')), wpAny_loadPart' hl, wpAny_loadPart' hb
    exact ⟨_, rfl, h⟩
theorem list_extend_lst (l : Addr) (items : Array Value) (n : Nat) (b : Addr) (items2 : Array Value) (n2 : Nat) (dd : Option Addr) (sl : Array (Option Value)) (hs0 : ¬(!items.isEmpty && Builtin.List.listTooLong (items.size + items2.size)) = true) (hs1 : items.size ≤ sizeLine) (hs2 : items.size + items2.size ≤ sizeLine + 1) :
    Meets (Builtin.«list.extend» ⟨[.ref l, .ref b], []⟩) (fun _ R s => s.heap.get? l = some { cls := .type "list", dict := none, data := .seq items n, slots := #[] } ∧ s.heap.get? b = some { cls := .type "list", dict := dd, data := .seq items2 n2, slots := sl } ∧ R (.ok (.ret Value.none)) { s with heap := s.heap.update l (Obj.mapSeq fun x => x ++ items2), toks := s.toks }) :=
  .of_wp fun prog w A R s h => by
    obtain ⟨hp, g, d, tk, os⟩ := s
    obtain ⟨hl, hb, h⟩ := h
    have f2 : isSubtype (.type "list") (.type "tuple") = pure false := by rw [isSubtype_type]; kernel_rfl
    have f4 : isSubtype (.type "list") (.type "list") = pure true := by rw [isSubtype_type]; kernel_rfl
    have hz' : (items ++ items2).size ≤ sizeLine + 1 := by rw [Array.size_append]; exact hs2
    wp_walk using (wpAny_updateSeq hl rfl (hz := hs1) (_hz' := hz')), wpAny_loadPart' hl, wpAny_loadPart' hb
    exact ⟨_, rfl, h⟩
section
variable {X : Cx} {ct : Gx} {W : WX}
def rExtT (K : PySem.W.Frag) : V → List V → Hp → VK → Prop := fun x vs H Q => ∃ l b xs zs, x = .ref l ∧ vs = [.ref b] ∧ H l = some (.lst xs) ∧ SqT K H b zs ∧ xs.length + zs.length ≤ sizeLine ∧ Q .non (upd H l (.lst (xs ++ zs)))
theorem mt_extT : MtR X "list.extend" (rExtT X.K) := by
  intro pins s σ H x vs v us Q I rx rv h
  obtain ⟨l, b, xs, zs, rfl, rfl, hH, hB, hz, q⟩ := h
  cases (show v = Value.ref l from rx)
  obtain ⟨u, rfl, ru⟩ := rv.one
  cases (show u = Value.ref b from ru)
  obtain ⟨z, its, n, r, hl, e⟩ := I.lstM hH
  obtain ⟨its2, r2, ⟨o, ho, hc, n2, hd⟩, hz2⟩ := I.tuple hB
  obtain ⟨oc, od, odt, osl⟩ := o
  dsimp only at hc hd
  subst hc hd
  have l1 : its.length = xs.length := hl.symm
  have l2 : its2.length = zs.length := r2.length.symm
  have hsz : its.toArray.size + its2.toArray.size ≤ sizeLine := by rw [List.size_toArray, List.size_toArray, l1, l2]; exact hz
  have hlong : ¬ (!its.toArray.isEmpty && Builtin.List.listTooLong (its.toArray.size + its2.toArray.size)) = true := by
    rw [notLongL hsz, Bool.and_false]
    exact Bool.false_ne_true
  refine call_meets F.slot_list_extend ⟨_, e, rfl⟩ F.entry_list_extend (F.args_list_extend_2 _ _) (list_extend_tup l its.toArray n b its2.toArray n2 od osl hlong (by rw [List.size_toArray]; omega) (by omega)) ⟨e, ho, ?_⟩
  refine ⟨.non, _, I.lset (its' := its ++ its2) hH e (by simp) (r.append r2) ?_, rfl, q⟩
  rw [List.length_append]
  exact hz
def rExtL (K : PySem.W.Frag) : V → List V → Hp → VK → Prop := fun x vs H Q => ∃ l b xs zs, x = .ref l ∧ vs = [.ref b] ∧ H l = some (.lst xs) ∧ SqL K H b zs ∧ xs.length + zs.length ≤ sizeLine ∧ Q .non (upd H l (.lst (xs ++ zs)))
theorem mt_extL : MtR X "list.extend" (rExtL X.K) := by
  intro pins s σ H x vs v us Q I rx rv h
  obtain ⟨l, b, xs, zs, rfl, rfl, hH, hB, hz, q⟩ := h
  cases (show v = Value.ref l from rx)
  obtain ⟨u, rfl, ru⟩ := rv.one
  cases (show u = Value.ref b from ru)
  obtain ⟨z, its, n, r, hl, e⟩ := I.lstM hH
  obtain ⟨its2, r2, p2, hz2⟩ := I.list hB
  obtain ⟨o, ho, hc, n2, hd⟩ := p2.isList
  obtain ⟨oc, od, odt, osl⟩ := o
  dsimp only at hc hd
  subst hc hd
  have l1 : its.length = xs.length := hl.symm
  have l2 : its2.length = zs.length := r2.length.symm
  have hsz : its.toArray.size + its2.toArray.size ≤ sizeLine := by rw [List.size_toArray, List.size_toArray, l1, l2]; exact hz
  have hlong : ¬ (!its.toArray.isEmpty && Builtin.List.listTooLong (its.toArray.size + its2.toArray.size)) = true := by
    rw [notLongL hsz, Bool.and_false]
    exact Bool.false_ne_true
  refine call_meets F.slot_list_extend ⟨_, e, rfl⟩ F.entry_list_extend (F.args_list_extend_2 _ _) (list_extend_lst l its.toArray n b its2.toArray n2 od osl hlong (by rw [List.size_toArray]; omega) (by omega)) ⟨e, ho, ?_⟩
  refine ⟨.non, _, I.lset (its' := its ++ its2) hH e (by simp) (r.append r2) ?_, rfl, q⟩
  rw [List.length_append]
  exact hz
theorem mt_ext2 : MtR X "list.extend" (fun x vs H Q => rExtend x vs H Q ∨ rExtT X.K x vs H Q ∨ rExtL X.K x vs H Q) := by
  intro pins s σ H x vs v us Q I rx rv h
  rcases h with h | h | h
  · exact mt_extend pins s σ H x vs v us Q I rx rv h
  · exact mt_extT pins s σ H x vs v us Q I rx rv h
  · exact mt_extL pins s σ H x vs v us Q I rx rv h
/-- xs.extend(e): a tuple, or a new list -/
def eExt (f g : FE) : FE := fun sl st => match f sl st with
  | .ok (.bor n) st1 => if lstAt st1 n = none then .fail else match g sl st1 with
    | .fail => .fail
    | .exc x st2 => .exc x st2
    | .ok (.val (.tuple ds)) st2 => match lstAt st2 n with
      | none => .fail
      | some xs => if xs.length + ds.length ≤ Lim then .ok (.val .none) (putAt st2 n (.lst (xs ++ ds))) else .fail
    | .ok (.val (.list ds)) st2 => match lstAt st2 n with
      | none => .fail
      | some xs => if xs.length + ds.length ≤ Lim then .ok (.val .none) (putAt st2 n (.lst (xs ++ ds))) else .fail
    | .ok (.new (.lst ds)) st2 => match lstAt st2 n with
      | none => .fail
      | some xs => if xs.length + ds.length ≤ Lim then .ok (.val .none) (putAt st2 n (.lst (xs ++ ds))) else .fail
    | _ => .fail
  | _ => .fail
theorem se_ext {o e : Expr} {f g : FE} {apos cpos : Pos} (ho : SE X ct W o f) (he : SE X ct W e g) (hbase : attributeBase o "extend" X.env (eval o X.env) = eval o X.env := by rfl)
    (hfew : ((backTo cpos (starEach [e] X.env)).all (fun x => !x.1) && (backToKw cpos (keywordEach [] X.env)).all (fun x => x.1.isSome) && decide (([e] : List Expr).length + ([] : List Keyword).length + (if ([] : List Keyword).isEmpty then 0 else 1) < 30)) = true := by rfl)
    (hline : (apos.endLine == cpos.line) = true := by rfl) (hs : starEach [e] X.env = (false, eval e X.env) :: starEach [] X.env := by rfl) (hplain : (backTo cpos (starEach ([] : List Expr) X.env)).any (·.1) = false := by rfl) :
    SE X ct W (.Call (.Attribute o "extend" apos) [e] [] cpos) (eExt f g) := by
  intro B hB hc sl st
  refine pe_imp (pe_bm PySem.F.plainAttrs_list PySem.F.slot_list_extend PySem.F.type_list_extend mt_ext2 (ho.all hB hc) (pa_cons (he.all hB hc) pa_nil hs) hbase hfew hline hs hplain) fun σ H Q ⟨ω, s, q⟩ => ⟨sl, st, ω, s, ?_⟩
  unfold eExt at q
  cases hf : f sl st with
  | fail => rw [hf] at q; exact q
  | exc x st1 => rw [hf] at q; exact q.elim
  | ok ev1 st1 =>
    rw [hf] at q
    intro v ω1 H1 x1 s1 hv
    cases ev1 with
    | val d => exact q.elim
    | new o => exact q.elim
    | lost => exact q.elim
    | bor n =>
      dsimp only at q
      obtain ⟨p, hp, rfl⟩ := hv
      cases hl0 : lstAt st1 n with
      | none => rw [if_pos hl0] at q; exact q.elim
      | some xs0 =>
      rw [if_neg (by rw [hl0]; intro z; cases z)] at q
      obtain ⟨c0, vs0, k01, k02, k03, k04, k05⟩ := lstAt_ok s1 hp hl0
      have ty : tyV X.K "list" (.ref p) H1 := .inl ⟨rfl, vs0, .of k04⟩
      refine ⟨ty, sl, st1, ω1, s1, ?_⟩
      cases hg : g sl st1 with
      | fail => rw [hg] at q; exact q.elim
      | exc x st2 =>
        rw [hg] at q
        exact fun cls d ω' H' e s' => q cls d ω' H' (x1.trans e) s'
      | ok ev st2 =>
        rw [hg] at q
        intro u ω2 H2 x2 s2 hu
        have hp2 : ω2.ad[n]? = some p := by
          obtain ⟨t, ht⟩ := x2.ad
          rw [← ht, List.getElem?_append_left (List.getElem?_eq_some_iff.mp hp).1]
          exact hp
        cases ev with
        | bor m => exact q.elim
        | lost => exact q.elim
        | new mo =>
          cases mo with
          | dic _ => exact q.elim
          | ins _ _ => exact q.elim
          | lst ds =>
            dsimp only at q
            cases hl : lstAt st2 n with
            | none => rw [hl] at q; exact q.elim
            | some xs =>
              rw [hl] at q
              dsimp only at q
              by_cases hz : xs.length + ds.length ≤ Lim
              · rw [if_pos hz] at q
                obtain ⟨c3, vs, k1, k2, k3, k4, k5⟩ := lstAt_ok s2 hp2 hl
                obtain ⟨b, rfl, hb1, hb2, hb3, ws, hb4, hb5⟩ := hu
                have fr : Fr ω2.F H2 ω2.F (upd H2 p (.lst (vs ++ ws))) := fun a h => ⟨h, upd_ne fun e => k3 (e ▸ h)⟩
                obtain ⟨s4, x4⟩ := s2.put (o := .lst (xs ++ ds)) k1 hp2 k2 k3 ⟨vs ++ ws, upd_same, (k5.append hb5).up fr⟩
                unfold putAt at q
                rw [k1] at q
                exact .inl ⟨p, b, vs, ws, rfl, rfl, k4, hb4, by rw [k5.length, hb5.length]; exact Nat.le_trans hz lim_line, q .non ω2 _ ((x1.trans x2).trans x4) s4 .non⟩
              · rw [if_neg hz] at q; exact q.elim
        | val d =>
          cases d with
          | list ds =>
            dsimp only at q
            cases hl : lstAt st2 n with
            | none => rw [hl] at q; exact q.elim
            | some xs =>
              rw [hl] at q
              dsimp only at q
              by_cases hz : xs.length + ds.length ≤ Lim
              · rw [if_pos hz] at q
                obtain ⟨c3, vs, k1, k2, k3, k4, k5⟩ := lstAt_ok s2 hp2 hl
                cases (show Rp B.K ω2.F H2 u (.list ds) from hu) with
                | lst fz r =>
                  rename_i b ws
                  have fr : Fr ω2.F H2 ω2.F (upd H2 p (.lst (vs ++ ws))) := fun a h => ⟨h, upd_ne fun e => k3 (e ▸ h)⟩
                  obtain ⟨s4, x4⟩ := s2.put (o := .lst (xs ++ ds)) k1 hp2 k2 k3 ⟨vs ++ ws, upd_same, (k5.append r).up fr⟩
                  unfold putAt at q
                  rw [k1] at q
                  exact .inr (.inr ⟨p, b, vs, ws, rfl, rfl, k4, by rw [← hB]; exact fz.sq, by rw [k5.length, r.length]; exact Nat.le_trans hz lim_line, q .non ω2 _ ((x1.trans x2).trans x4) s4 .non⟩)
              · rw [if_neg hz] at q; exact q.elim
          | tuple ds =>
            dsimp only at q
            cases hl : lstAt st2 n with
            | none => rw [hl] at q; exact q.elim
            | some xs =>
              rw [hl] at q
              dsimp only at q
              by_cases hz : xs.length + ds.length ≤ Lim
              · rw [if_pos hz] at q
                obtain ⟨c3, vs, k1, k2, k3, k4, k5⟩ := lstAt_ok s2 hp2 hl
                cases (show Rp B.K ω2.F H2 u (.tuple ds) from hu) with
                | tup fz r =>
                  rename_i b ws
                  have fr : Fr ω2.F H2 ω2.F (upd H2 p (.lst (vs ++ ws))) := fun a h => ⟨h, upd_ne fun e => k3 (e ▸ h)⟩
                  obtain ⟨s4, x4⟩ := s2.put (o := .lst (xs ++ ds)) k1 hp2 k2 k3 ⟨vs ++ ws, upd_same, (k5.append r).up fr⟩
                  unfold putAt at q
                  rw [k1] at q
                  exact .inr (.inl ⟨p, b, vs, ws, rfl, rfl, k4, by rw [← hB]; exact fz.sq, by rw [k5.length, r.length]; exact Nat.le_trans hz lim_line, q .non ω2 _ ((x1.trans x2).trans x4) s4 .non⟩)
              · rw [if_neg hz] at q; exact q.elim
          | _ => exact q.elim
end
end Px
/-! PxZ4: texts sorted -/
namespace Px
open PySem PySem.Spec PyProof.Rows L2
def LeS (a b : Str) : Prop := a.cps.toList ≤ b.cps.toList
instance (a b : Str) : Decidable (LeS a b) := inferInstanceAs (Decidable (a.cps.toList ≤ b.cps.toList))
theorem LeS.refl (a : Str) : LeS a a := List.le_refl _
theorem LeS.trans {a b c : Str} (h : LeS a b) (k : LeS b c) : LeS a c := List.le_trans h k
theorem LeS.total (a b : Str) : LeS a b ∨ LeS b a := List.le_total _ _
theorem LeS.anti {a b : Str} (h : LeS a b) (k : LeS b a) : a = b := by
  have e : a.cps.toList = b.cps.toList := List.le_antisymm h k
  cases a with
  | mk x => cases b with
    | mk y => exact congrArg Str.mk (Array.toList_inj.mp e)
theorem not_lt_le {a b : Str} : (!ltCps b.cps.toList a.cps.toList) = true ↔ LeS a b := by
  rw [ltCps_eq]
  unfold LeS
  simp
theorem rising_all : ∀ (l : List Str) (p : Str), risingS p l = true → (∀ x ∈ l, LeS p x) ∧ l.Pairwise LeS
  | [], p, _ => ⟨(fun _ h => nomatch h), List.Pairwise.nil⟩
  | x :: r, p, h => by
    have h' : (!ltCps x.cps.toList p.cps.toList && risingS x r) = true := h
    rw [Bool.and_eq_true, not_lt_le] at h'
    obtain ⟨i1, i2⟩ := rising_all r x h'.2
    refine ⟨fun y hy => ?_, List.Pairwise.cons i1 i2⟩
    rcases List.mem_cons.mp hy with e | hy
    · rw [e]; exact h'.1
    · exact h'.1.trans (i1 y hy)
theorem sorted_pair : ∀ {l : List Str}, sortedS l = true → l.Pairwise LeS
  | [], _ => .nil
  | x :: r, h => List.Pairwise.cons (rising_all r x h).1 (rising_all r x h).2
theorem perm_one : ∀ {l k : List Str}, l.Perm k → l.Pairwise LeS → k.Pairwise LeS → l = k
  | [], k, p, _, _ => (List.Perm.nil_eq p)
  | a :: l, k, p, h1, h2 => by
    cases k with
    | nil => exact absurd p.length_eq (by simp)
    | cons b k =>
      have hb : b ∈ a :: l := p.mem_iff.mpr List.mem_cons_self
      have ha : a ∈ b :: k := p.mem_iff.mp List.mem_cons_self
      have h1' := List.pairwise_cons.mp h1
      have h2' := List.pairwise_cons.mp h2
      have e : a = b := by
        rcases List.mem_cons.mp hb with e | hb
        · exact e.symm
        · rcases List.mem_cons.mp ha with e | ha
          · exact e
          · exact (h1'.1 b hb).anti (h2'.1 a ha)
      subst e
      rw [perm_one (List.Perm.cons_inv p) h1'.2 h2'.2]
def sortS (l : List Str) : List Str := l.mergeSort fun a b => decide (LeS a b)
theorem sortS_perm (l : List Str) : (sortS l).Perm l := List.mergeSort_perm _ _
theorem sortS_pair (l : List Str) : (sortS l).Pairwise LeS := by
  have h := List.pairwise_mergeSort (le := fun a b => decide (LeS a b)) (fun a b c h1 h2 => decide_eq_true ((of_decide_eq_true h1).trans (of_decide_eq_true h2))) (fun a b => by
    rcases LeS.total a b with h | h
    · rw [decide_eq_true h]; rfl
    · rw [decide_eq_true h, Bool.or_true]) l
  exact h.imp fun h => of_decide_eq_true h
theorem sorted_one {l k : List Str} (p : k.Perm l) (h : sortedS k = true) : k = sortS l := perm_one (p.trans (sortS_perm l).symm) (sorted_pair h) (sortS_pair l)
/-- the texts that are a dict's keys -/
def keysL : List (PyData × PyData) → Option (List Str)
  | [] => some []
  | (.str s, _) :: r => match keysL r with
    | some l => some (s :: l)
    | none => none
  | _ => none
theorem keys_rp {K : PySem.W.Frag} {F : Addr → Prop} {H : Hp} : ∀ {ds : List (PyData × PyData)} {vs : List (Key × V)} {l : List Str}, keysL ds = some l → RpD K F H vs ds → vs.map (·.1) = l.map Sum.inr
  | [], _, l, e, r => by
    cases e
    cases r
    rfl
  | (d, w) :: ds, vs, l, e, r => by
    generalize hd : (d, w) = p at r
    cases r with
    | cons a r =>
      rename_i k0 v0 vs0 d0
      cases hd
      cases k0 with
      | inl i => exact nomatch e
      | inr x =>
        have e' : (match keysL ds with | some l => some (x :: l) | none => none) = some l := e
        cases hl : keysL ds with
        | none => rw [hl] at e'; cases e'
        | some l' =>
          rw [hl] at e'
          cases e'
          rw [List.map_cons, List.map_cons, keys_rp hl r]
def sortedDD : List PyData → Option OR
  | [.dict kvs] => match keysL kvs with
    | some l => if l.length < 64 ∧ (l.all PyData.strOk) = true then some (.new (.lst ((sortS l).map .str))) else none
    | none => none
  | _ => none
theorem rpa_strs {K : PySem.W.Frag} {F : Addr → Prop} {H : Hp} : ∀ l : List Str, (∀ s ∈ l, PyData.strOk s = true) → RpA K F H (l.map V.str) (l.map PyData.str)
  | [], _ => .nil
  | s :: l, h => .cons (.str s (h s List.mem_cons_self)) (rpa_strs l fun x hx => h x (List.mem_cons_of_mem _ hx))
section
variable {X : Cx} {ct : Gx} {W : WX}
theorem call_sortedA (hc : X.calm = true) : CallD X (.builtin "sorted") sortedDD := ⟨_, call_sortedD hc, fun F H xs ds o Q dm b e gv => by
  unfold sortedDD at e
  split at e
  · split at e
    · rename_i kvs l hl
      split at e
      · rename_i h
        cases e
        replace b := bps1 b
        obtain ⟨v, rfl, b⟩ := b
        obtain ⟨a, vs, rfl, hr, rd⟩ := b.dic_
        refine ⟨a, vs, l, rfl, hr, keys_rp hl rd, h.1, fun ys p pm so hp => ?_⟩
        rw [sorted_one pm so]
        refine gv.lst dm hp (rpa_strs _ fun s hs => ?_)
        exact List.all_eq_true.mp h.2 s ((sortS_perm l).mem_iff.mp hs)
      · cases e
    · cases e
  · cases e⟩
end
end Px
/-! PxZ5: two tuples walked side by side; isinstance of one of two kinds, of one of three refusals -/
namespace Px
open PySem PySem.Spec PyProof.Rows L2
/-- two tuples side by side, each pair a new whole tuple -/
def Pz (K : PySem.W.Frag) (a b : Addr) : It where
  go := (RZ.ItzT K a b).go
  stop := (RZ.ItzT K a b).stop
  yld := fun i H v H' => ∃ (p : Addr) (o : Obj) (d e : V), v = .ref p ∧ H p = none ∧ o.dict = none ∧ H' = upd H p (.frz o (.tup [d, e])) ∧ (∀ ds, SqT K H a ds → ds[i]? = some d) ∧ (∀ es, SqT K H b es → es[i]? = some e)
theorem turn_pz {P : Program} {w : World} {K : PySem.W.Frag} {ts : List Expr} {n : Nat} {tp : Pos} {a b c l r k1 k2 : Addr} (Z : ZipApart c l r k1 k2 a b) :
    Turn P w K (.Tuple ts n tp) (Pz K a b) [c, l, r, k1, k2] c (fun j m => IsZip m c l r .none ∧ IsPair m l (.ref k1) (.ref k2) ∧ (∃ d e, IsPair m r d e) ∧ m.IsTupleIter k1 a j ∧ m.IsTupleIter k2 b j) where
  mem := (RZ.turn_zipT (K := K) (P := P) (w := w) (elts := ts) (kk := n) (tpos := tp) Z).mem
  obj := (RZ.turn_zipT (K := K) (P := P) (w := w) (elts := ts) (kk := n) (tpos := tp) Z).obj
  keep := (RZ.turn_zipT (K := K) (P := P) (w := w) (elts := ts) (kk := n) (tpos := tp) Z).keep
  done := (RZ.turn_zipT (K := K) (P := P) (w := w) (elts := ts) (kk := n) (tpos := tp) Z).done
  self := (RZ.turn_zipT (K := K) (P := P) (w := w) (elts := ts) (kk := n) (tpos := tp) Z).self
  item := by
    intro X e1 e2 e3 clm j pins sh σ H E iv free at_ more
    cases e1
    cases e2
    cases e3
    obtain ⟨g1, g2, ⟨d0, e0, g3⟩, g4, g5⟩ := at_
    obtain ⟨ds, es, d, e, q1, q2, w1, w2⟩ := more
    obtain ⟨i1, v1, t1, _⟩ := iv.tuple q1
    obtain ⟨i2, v2, t2, _⟩ := iv.tuple q2
    obtain ⟨u1, y1, r1⟩ := v1.get w1
    obtain ⟨u2, y2, r2⟩ := v2.get w2
    have lt := Heap.lt_size g1
    refine RZ.pyNext_zipT_item Z g1 g2 g3 g4 g5 t1 t2 (x := u1) (y := u2) (by simpa using y1) (by simpa using y2) fun m' f1 f3 f4 f5 nw _ old => ?_
    refine ⟨_, rfl, wpAny_letOwnedTupleGo_zip (s := { sh with heap := m' }) f1 fun m2 f1' bt => ?_⟩
    have nw2 : m2.get? sh.heap.objs.size = some { cls := .type "tuple", data := .seq #[u1, u2] } := (bt.2 _ (Nat.ne_of_gt lt)).trans nw
    have ok : ObjOk X.prog X.w (upd H sh.heap.objs.size (.frz { cls := .type "tuple", data := .seq #[u1, u2] } (.tup [d, e]))) m2 sh.heap.objs.size (.frz { cls := .type "tuple", data := .seq #[u1, u2] } (.tup [d, e])) :=
      ⟨nw2, show 2 ≤ sizeLine by decide, [u1, u2], .cons r1 (.cons r2 .nil), ⟨_, nw2, rfl, _, rfl⟩⟩
    have iv2 : Inv X pins σ (upd H sh.heap.objs.size (.frz { cls := .type "tuple", data := .seq #[u1, u2] } (.tup [d, e]))) { sh with heap := m2 } :=
      iv.turnedNew (t' := sh.toks) (ch := [c, l, r, k1, k2]) (fun y o hy z => (bt.2 y (fun z' => hy (by simp [z']))).trans (old y o (fun z' => hy (by simp [z'])) (fun z' => hy (by simp [z'])) (fun z' => hy (by simp [z'])) (fun z' => hy (by simp [z'])) z)) free (Nat.le_refl _) ok
    refine ⟨.ref sh.heap.objs.size, _, iv2, rfl, ⟨_, _, d, e, rfl, iv.hok.fresh (Nat.le_refl _), rfl, rfl, fun z hz => by rw [iv.tuple_inj hz q1]; exact w1, fun z hz => by rw [iv.tuple_inj hz q2]; exact w2⟩, ⟨f1', ?_, ⟨u1, u2, ?_⟩, ?_, ?_⟩, fun y hy => ?_⟩
    · exact (bt.2 _ Z.TIz).trans (old _ _ Z.TIz Z.TITO Z.TIi1 Z.TIi2 g2)
    · exact (bt.2 _ Z.TOz).trans f3
    · exact f4.at fun o z => (bt.2 _ Z.i1z).trans z
    · exact f5.at fun o z => (bt.2 _ Z.i2z).trans z
    · have below : y < sh.heap.objs.size := by
        have cs : y = c ∨ y = l ∨ y = r ∨ y = k1 ∨ y = k2 := by simpa using hy
        rcases cs with z | z | z | z | z
        · subst z; exact lt
        · subst z; exact Heap.lt_size g2
        · subst z; exact Heap.lt_size g3
        · subst z
          obtain ⟨_, z, _⟩ := g4
          exact Heap.lt_size z
        · subst z
          obtain ⟨_, z, _⟩ := g5
          exact Heap.lt_size z
      rw [upd_ne (Nat.ne_of_lt below)]
      exact (free y hy).1
def iPz (K : PySem.W.Frag) (ta : TA) : TI := fun σ H R => ta σ H fun vs H1 => ∃ a b ds es, vs = [.ref a, .ref b] ∧ SqT K H1 a ds ∧ SqT K H1 b es ∧ R (Pz K a b) H1
theorem pi_pz {X : Cx} {e e2 : Expr} {ta : TA} {p pos tp : Pos} {ts : List Expr} {n : Nat} (hg : Gl X "zip") (hm : X.mg "zip" = none) (ha : PA X [e, e2] ta)
    (st1 : starEach [e, e2] X.env = (false, eval e X.env) :: starEach [e2] X.env := by rfl) (st2 : (backTo pos (starEach [e2] X.env)).any (·.1) = false := by rfl) :
    PI X (.Tuple ts n tp) (.Call (.Name "zip" p) [e, e2] [] pos) (iPz X.K ta) := by
  constructor
  intro pins sh σ H R iv h
  refine Call_ (ld_blt iv hg hm PyProof.Rows.boot_zip (PyProof.Rows.callWith_type1 (thn (ha.run pos pins sh σ H _ iv h) fun us s1 ⟨vs, H1, J1, rv, q⟩ => ?_) st1 st2))
  obtain ⟨a, b, ds, es, rfl, q1, q2, q⟩ := q
  obtain ⟨u1, u2, rfl, ru1, ru2⟩ := vals2 rv
  cases (show u1 = Value.ref a from ru1)
  cases (show u2 = Value.ref b from ru2)
  obtain ⟨i1, v1, t1, _⟩ := J1.tuple q1
  obtain ⟨i2, v2, t2, _⟩ := J1.tuple q2
  obtain ⟨o1, z1, _⟩ := id t1
  obtain ⟨o2, z2, _⟩ := id t2
  refine RZ.call_zipT (show s1.heap.IsTuple a i1.toArray from t1) (show s1.heap.IsTuple b i2.toArray from t2) fun m f1 f2 f3 f4 f5 _ old => wpAny_pyIter_zip f1 ?_
  have J2 : Inv X pins σ H1 { s1 with heap := m } := J1.kept (t' := s1.toks) old
  refine ⟨_, [s1.heap.objs.size + 4, s1.heap.objs.size + 2, s1.heap.objs.size + 3, s1.heap.objs.size, s1.heap.objs.size + 1], _, _, H1, rfl, J2, turn_pz (PySem.W.ktu_apart s1.heap.objs.size a b (Heap.lt_size z1) (Heap.lt_size z2)), ⟨f1, f2, ⟨_, _, f3⟩, f4, f5⟩, fun y hy => ?_, q⟩
  have le : s1.heap.objs.size ≤ y := by
    have cs : y = s1.heap.objs.size + 4 ∨ y = s1.heap.objs.size + 2 ∨ y = s1.heap.objs.size + 3 ∨ y = s1.heap.objs.size ∨ y = s1.heap.objs.size + 1 := by simpa using hy
    rcases cs with z | z | z | z | z <;> (rw [z]; first | exact Nat.le_add_right _ _ | exact Nat.le_refl _)
  exact J1.fpOk le (J1.hok.fresh le)
def zipP : List PyData → List PyData → List PyData
  | d :: ds, e :: es => .tuple [d, e] :: zipP ds es
  | _, _ => []
theorem zipP_get : ∀ (ds es : List PyData) (i : Nat) (d : PyData), (zipP ds es)[i]? = some d → ∃ x y, ds[i]? = some x ∧ es[i]? = some y ∧ d = .tuple [x, y]
  | [], _, _, _, h => by unfold zipP at h; simp at h
  | _ :: _, [], _, _, h => by unfold zipP at h; simp at h
  | x :: ds, y :: es, 0, d, h => by
    unfold zipP at h
    cases (Option.some.inj h : PyData.tuple [x, y] = d)
    exact ⟨x, y, rfl, rfl, rfl⟩
  | x :: ds, y :: es, i + 1, d, h => by
    unfold zipP at h
    exact zipP_get ds es i d (by simpa using h)
theorem zipP_len : ∀ (ds es : List PyData), (zipP ds es).length = min ds.length es.length
  | [], _ => by unfold zipP; simp
  | _ :: _, [] => by unfold zipP; simp
  | x :: ds, y :: es => by
    unfold zipP
    rw [List.length_cons, zipP_len ds es, List.length_cons, List.length_cons]
    omega
section
variable {X : Cx} {ct : Gx} {W : WX}
theorem walks_pz {F : Addr → Prop} {H : Hp} {a b : Addr} {xs ys : List V} {ds es : List PyData} (f : FzT X.K F H a xs) (r : RpA X.K F H xs ds) (f2 : FzT X.K F H b ys) (r2 : RpA X.K F H ys es) : Walks X F H (Pz X.K a b) (zipP ds es) where
  go := fun F' H' i e hi => by
    rw [zipP_len] at hi
    have h1 : i < xs.length := by rw [r.length]; omega
    have h2 : i < ys.length := by rw [r2.length]; omega
    exact ⟨xs, ys, xs[i], ys[i], (f.mono e).sq, (f2.mono e).sq, List.getElem?_eq_getElem h1, List.getElem?_eq_getElem h2⟩
  stop := fun F' H' e => ⟨xs, ys, (f.mono e).sq, (f2.mono e).sq, by rw [zipP_len, r.length, r2.length]; omega⟩
  yld := fun F' H' i x H'' d e dm hd hy => by
    obtain ⟨p, o, v1, v2, rfl, hp, od, rfl, k1, k2⟩ := hy
    obtain ⟨d1, d2, h1, h2, rfl⟩ := zipP_get ds es i d hd
    obtain ⟨w1, g1, b1⟩ := r.get h1
    obtain ⟨w2, g2, b2⟩ := r2.get h2
    have c1 := k1 xs (f.mono e).sq
    rw [g1] at c1
    cases c1
    have c2 := k2 ys (f2.mono e).sq
    rw [g2] at c2
    cases c2
    have px : PEx F' H' (fun a => F' a ∨ a = p) (upd H' p (.frz o (.tup [v1, v2]))) := PEx.frz dm hp
    exact ⟨_, px, .tup (.inl ⟨.inr rfl, o, upd_same, od⟩) (.cons ((b1.up e).up (px.fr dm)) (.cons ((b2.up e).up (px.fr dm)) .nil))⟩
def iZip (f g : FE) : FI := fun sl st => match f sl st with
  | .ok (.val (.tuple ds)) st1 => match g sl st1 with
    | .ok (.val (.tuple es)) st2 => .ok (zipP ds es) st2
    | _ => .fail
  | _ => .fail
theorem si_zip {ts : List Expr} {n : Nat} {tp p pos : Pos} {a b : Expr} {f g : FE} (hg : Gl X "zip") (hm : X.mg "zip" = none) (h1 : SE X ct W a f) (h2 : SE X ct W b g)
    (s1 : starEach [a, b] X.env = (false, eval a X.env) :: starEach [b] X.env := by rfl) (s3 : starEach [b] X.env = (false, eval b X.env) :: starEach [] X.env := by rfl) (s2 : (backTo pos (starEach [b] X.env)).any (·.1) = false := by rfl) :
    SI X ct W (.Tuple ts n tp) (.Call (.Name "zip" p) [a, b] [] pos) (iZip f g) := by
  intro B hB hc sl st
  refine pi_imp (pi_pz hg hm (pa_cons (h1 B hB hc sl st) (pa_cons (h2.all hB hc) pa_nil s3) s1) s1 s2) fun σ H R ⟨ω, s, q⟩ => ⟨ω, s, ?_⟩
  unfold iZip at q
  cases hf : f sl st with
  | fail => rw [hf] at q; exact q.elim
  | exc x st1 => rw [hf] at q; exact q.elim
  | ok ev st1 =>
    rw [hf] at q
    intro v ω1 H1 x1 s1 hv
    cases ev with
    | bor n => exact q.elim
    | new o => exact q.elim
    | lost => exact q.elim
    | val d =>
      cases d with
      | tuple ds =>
        dsimp only at q
        refine ⟨sl, st1, ω1, s1, ?_⟩
        cases hg : g sl st1 with
        | fail => rw [hg] at q; exact q.elim
        | exc x st2 => rw [hg] at q; exact q.elim
        | ok ev2 st2 =>
          rw [hg] at q
          intro u ω2 H2 x2 s2 hu
          cases ev2 with
          | bor n => exact q.elim
          | new o => exact q.elim
          | lost => exact q.elim
          | val d2 =>
            cases d2 with
            | tuple es =>
              dsimp only at q
              have hv2 : Rp B.K ω2.F H2 v (.tuple ds) := (show Rp B.K ω1.F H1 v (.tuple ds) from hv).up x2.fr
              have hu2 : Rp B.K ω2.F H2 u (.tuple es) := hu
              rw [hB] at hv2 hu2
              cases hv2 with
              | tup fa ra =>
                cases hu2 with
                | tup fb rb => exact ⟨_, _, _, _, rfl, fa.sq, fb.sq, q _ ω2 H2 (x1.trans x2) s2 (walks_pz fa ra fb rb)⟩
            | _ => exact q.elim
      | _ => exact q.elim
/-! ### isinstance of one of two built-in kinds -/
theorem Bp.beside {K : PySem.W.Frag} {F : Addr → Prop} {H : Hp} {v : V} {d : PyData} {p : Addr} {o : HO} (dm : ∀ a, F a → H a ≠ none) (hp : H p = none) (b : Bp K F H v d) : Bp K F (upd H p o) v d := by
  have px : PEx F H F (upd H p o) := PEx.neu dm hp
  cases b with
  | rp t => exact .rp (t.up (px.fr dm))
  | lst h r => exact .lst (by rw [upd_ne (by intro z; subst z; rw [hp] at h; cases h)]; exact h) (r.up (px.fr dm))
  | dic h r => exact .dic (by rw [upd_ne (by intro z; subst z; rw [hp] at h; cases h)]; exact h) (r.up (px.fr dm))
def isD2 (S T : String) : PyData → Option OR := fun d => match kitB (kindOf d) S, kitB (kindOf d) T with
  | some a, some b => some (.val (.bool (a || b)))
  | _, _ => none
theorem se_is2 {S T : String} {x y z : Str} {p p2 p3 p4 pos : Pos} {n : Nat} {e : Expr} {f : FE} (hx : x = "isinstance") (hg : Gl X x) (hm : X.mg x = none) (gy : Gl X y) (my : X.mg y = none) (vy : bootBuiltins y = some (.type S)) (gz : Gl X z) (mz : X.mg z = none) (vz : bootBuiltins z = some (.type T)) (he : SE X ct W e f)
    (ny : y ≠ "__name__" := by decide) (dy : (y == ("__debug__" : Str)) = false := by decide) (nz : z ≠ "__name__" := by decide) (dz : (z == ("__debug__" : Str)) = false := by decide) (hs : starEach [e, .Tuple [.Name y p2, .Name z p3] n p4] X.env = (false, eval e X.env) :: starEach [.Tuple [.Name y p2, .Name z p3] n p4] X.env := by rfl)
    (hs2 : starEach [.Tuple [.Name y p2, .Name z p3] n p4] X.env = (false, eval (.Tuple [.Name y p2, .Name z p3] n p4) X.env) :: starEach [] X.env := by rfl) (hs3 : starEach [.Name y p2, .Name z p3] X.env = (false, eval (.Name y p2) X.env) :: starEach [.Name z p3] X.env := by rfl) (hs4 : starEach [.Name z p3] X.env = (false, eval (.Name z p3) X.env) :: starEach [] X.env := by rfl)
    (hpl : (backTo pos (starEach [.Tuple [.Name y p2, .Name z p3] n p4] X.env)).any (·.1) = false := by rfl) :
    SE X ct W (.Call (.Name x p) [e, .Tuple [.Name y p2, .Name z p3] n p4] [] pos) (u1 (isD2 S T) f) := by
  subst hx
  have py : PE X (.Name y p2) (tC (.ty S)) := pe_bltn gy my vy rfl ny dy
  have pz : PE X (.Name z p3) (tC (.ty T)) := pe_bltn gz mz vz rfl nz dz
  have rule : ∀ ta, PE X e ta → PE X (.Call (.Name "isinstance" p) [e, .Tuple [.Name y p2, .Name z p3] n p4] [] pos) (fun σ H Q => ta σ H fun x H1 => 2 ≤ sizeLine ∧ ∀ tp, H1 tp = none → rIsiT X.K [x, .ref tp] (upd H1 tp (.tup [.ty S, .ty T])) Q) := fun ta ha =>
    pe_callB call_isiT hg hm boot_isinstance (pa_cons ha (pa_cons (pe_tup (pa_cons py (pa_cons pz pa_nil hs4) hs3)) pa_nil hs2) hs) (by decide) (by decide) hs hpl
  refine se_u1 rule he fun F H v d o Q dm b e gv => ⟨by decide, fun tp htp => ?_⟩
  unfold isD2 at e
  cases h1 : kitB (kindOf d) S with
  | none => rw [h1] at e; cases e
  | some k1 =>
    cases h2 : kitB (kindOf d) T with
    | none => rw [h1, h2] at e; cases e
    | some k2 =>
      rw [h1, h2] at e
      cases e
      have px : PEx F H F (upd H tp (.tup [.ty S, .ty T])) := PEx.neu dm htp
      exact ⟨v, tp, [.ty S, .ty T], _, [.type S, .type T], k1 || k2, rfl, upd_same, .cons (.ty S) (.cons (.ty T) .nil), (b.beside dm htp).ty, kitAny_cons (kit_ty h1) (fun z => kitAny_cons (kit_ty h2) (fun y => by rw [z, y]; exact kitAny_nil) (fun y => by rw [z, y]; rfl)) (fun z => by rw [z]; rfl), gv (.bl _) F _ px (.bl _)⟩
/-- isinstance(e, (A, B, C)) -/
theorem call_isE3 {a D : Addr} {oe : Obj} {pn : List (Addr × Obj)} {A1 A2 A3 : Addr} {b : Bool} (C : ExcC X.K D) (hz : Zc (.ref D) none oe) (hf : ∃ vs, oe.data = .fields vs) (k : PySem.W.kitAny X.K (.ref D) [.ref A1, .ref A2, .ref A3] = some b) :
    CallR (X.suite a ((a, oe) :: pn)) (.builtin "isinstance") (fun xs H Q => ∃ tp, xs = [.ref a, .ref tp] ∧ H tp = some (.tup [.ref A1, .ref A2, .ref A3]) ∧ Q (.bl b) H) := by
  intro pins s σ H xs us Q I r h
  obtain ⟨tp, rfl, ht, q⟩ := h
  obtain ⟨u1, u2, rfl, r1, r2⟩ := vals2 r
  cases (show u1 = Value.ref a from r1)
  cases (show u2 = Value.ref tp from r2)
  obtain ⟨hget, _⟩ := I.pin (a, oe) (List.mem_append.mpr (.inl List.mem_cons_self))
  obtain ⟨_, its, rv, o, h1, h2, n, h3⟩ := (show ObjOk X.prog X.w H s.heap tp (.tup [.ref A1, .ref A2, .ref A3]) from I.hok tp _ ht)
  have e3 : its = [.ref A1, .ref A2, .ref A3] := by
    cases rv with
    | cons q1 rv =>
      obtain ⟨w2, w3, e, q2, q3⟩ := vals2 rv
      rw [e, show _ = Value.ref A1 from q1, show w2 = Value.ref A2 from q2, show w3 = Value.ref A3 from q3]
  subst e3
  obtain ⟨oc, od, dt, sl⟩ := o
  simp only at h2 h3
  subst h2 h3
  have J : PySem.W.InstAt s.heap a oe D none := by
    obtain ⟨vs, hv⟩ := hf
    obtain ⟨oc, od, oda, osl⟩ := oe
    obtain ⟨z1, z2⟩ := hz
    dsimp only at z1 z2 hv
    subst z1 z2 hv
    exact ⟨hget, rfl, rfl, trivial⟩
  exact PySem.W.kia_tup (PySem.W.handS_kitx_exc C.hg C.hk C.hs C.hd C.ha C.hn C.ht C.hm) I.kIn J h1 k (fun z => nomatch z) fun tk => ⟨.bl b, H, I.kept (t' := tk) fun _ _ z => z, rfl, q⟩
theorem se_isX3 {a D : Addr} {oe : Obj} {pn : List (Addr × Obj)} {y : Exn} {A1 A2 A3 : Addr} {x z c1 c2 c3 : Str} {k : Nat} {p p1 p2 p3 p5 p4 pos : Pos} (i : Nat) (l : List (String × Bool)) (ok : CatOk ct (fun D b => ExcC X.K D ∧ PySem.W.kitAny X.K (.ref D) [.ref A1, .ref A2, .ref A3] = some b) l) (hy : ct.tab y.nm = some D) (hz : Zc (.ref D) none oe) (hf : ∃ vs, oe.data = .fields vs) (hx : x = "isinstance") (hg : Gl X x) (hm : X.mg x = none)
    (hi : X.N[i]? = some z) (hv : Vis X.env.scope z) (g1 : Gl X c1) (m1 : X.mg c1 = some (.ref A1)) (g2 : Gl X c2) (m2 : X.mg c2 = some (.ref A2)) (g3 : Gl X c3) (m3 : X.mg c3 = some (.ref A3)) (dz : (z == ("__debug__" : Str)) = false := by decide) (cz : (z == ("__classdict__" : Str)) = false := by decide)
    (d1 : (c1 == ("__debug__" : Str)) = false := by decide) (d2 : (c2 == ("__debug__" : Str)) = false := by decide) (d3 : (c3 == ("__debug__" : Str)) = false := by decide) (hs : starEach [.Name z p1, .Tuple [.Name c1 p2, .Name c2 p3, .Name c3 p5] k p4] X.env = (false, eval (.Name z p1) X.env) :: starEach [.Tuple [.Name c1 p2, .Name c2 p3, .Name c3 p5] k p4] X.env := by rfl)
    (hs2 : starEach [.Tuple [.Name c1 p2, .Name c2 p3, .Name c3 p5] k p4] X.env = (false, eval (.Tuple [.Name c1 p2, .Name c2 p3, .Name c3 p5] k p4) X.env) :: starEach [] X.env := by rfl) (hs3 : starEach [.Name c1 p2, .Name c2 p3, .Name c3 p5] X.env = (false, eval (.Name c1 p2) X.env) :: starEach [.Name c2 p3, .Name c3 p5] X.env := by rfl) (hs4 : starEach [.Name c2 p3, .Name c3 p5] X.env = (false, eval (.Name c2 p3) X.env) :: starEach [.Name c3 p5] X.env := by rfl) (hs5 : starEach [.Name c3 p5] X.env = (false, eval (.Name c3 p5) X.env) :: starEach [] X.env := by rfl)
    (hpl : (backTo pos (starEach [.Tuple [.Name c1 p2, .Name c2 p3, .Name c3 p5] k p4] X.env)).any (·.1) = false := by rfl) : SE (X.suite a ((a, oe) :: pn)) (ct.at a y) W0 (.Call (.Name x p) [.Name z p1, .Tuple [.Name c1 p2, .Name c2 p3, .Name c3 p5] k p4] [] pos) (eIsE i (catL l)) := by
  cases hb : catL l y with
  | none => exact se_isN i (catL l) hb
  | some b =>
    obtain ⟨EC, kk⟩ := ok.get y D b hy hb
    subst hx
    intro B hB hct sl st
    refine pe_imp (pe_callB (X := X.suite a ((a, oe) :: pn)) (call_isE3 EC hz hf kk) hg hm bo_isinstance (pa_cons (pe_var hi hv dz cz) (pa_cons (pe_tup (pa_cons (pe_glob g1 m1 (show RelV (.ref A1) (.ref A1) from rfl) d1) (pa_cons (pe_glob g2 m2 (show RelV (.ref A2) (.ref A2) from rfl) d2) (pa_cons (pe_glob g3 m3 (show RelV (.ref A3) (.ref A3) from rfl) d3) pa_nil hs5) hs4) hs3)) pa_nil hs2) hs) (by decide) (by decide) hs hpl) fun σ H Q ⟨ω, s, q⟩ => ?_
    unfold eIsE at q
    cases hsl : sl[i]? with
    | none => rw [hsl] at q; exact q.elim
    | some t =>
      rw [hsl] at q
      have r := s.slot i t hsl
      cases t with
      | non => exact q.elim
      | val d => exact q.elim
      | ref n => exact q.elim
      | hot y' =>
        obtain ⟨r1, r2⟩ := r
        rw [hct] at r1 r2
        have r2' : y' = y := r2
        subst r2'
        dsimp only at q
        rw [hb] at q
        refine ⟨.ref a, r1, by show 3 ≤ sizeLine; rw [sizeLine_eq]; omega, fun tp htp => ⟨tp, rfl, upd_same, ?_⟩⟩
        have px : PEx ω.F H ω.F (upd H tp (.tup [.ref A1, .ref A2, .ref A3])) := PEx.neu s.dom htp
        exact q (.bl b) ⟨ω.F, ω.ad⟩ _ (s.px px) (s.pure px) (.bl b)
/-- a, b = x, y -/
def sPar (i j : Nat) (f : FA) : FS := fun sl st => match f sl st with
  | .fail => .fail
  | .exc x st1 => .exc x sl st1
  | .ok evs st1 => match fixAll st1 evs with
    | some ([d, e], st2) => .nx ((sl.set i (.val d)).set j (.val e)) st2
    | _ => .fail
theorem ss_par {i j : Nat} {x y : Str} {a b : Expr} {f : FA} {px py pt pos : Pos} {kt k2 pt2} (hc : X.calm = true) (hN : X.N.Nodup) (ha : SA X ct W [a, b] f) (hsf : SoftA f) (hi : X.N[i]? = some x := by rfl) (hj : X.N[j]? = some y := by rfl) (hij : i ≠ j := by decide)
    (hx : X.env.scope.names.lookup x = some .local := by rfl) (hy : X.env.scope.names.lookup y = some .local := by rfl)
    (hw : swappedStores [.Tuple [.Name x px, .Name y py] kt pt] (.Tuple [a, b] k2 pt2) X.env = pure (some [x, y]) := by rfl)
    (hs : swapsWithSole [.Tuple [.Name x px, .Name y py] kt pt] (.Tuple [a, b] k2 pt2) pos.line X.env = pure false := by rfl) :
    SS X ct W (.Assign [.Tuple [.Name x px, .Name y py] kt pt] (.Tuple [a, b] k2 pt2) pos) (sPar i j f) := by
  intro B hB hct sl st
  refine ps_imp (ps_par hc hN hi hj hij hx hy (ha B hB hct sl st) hw hs) fun D σ H ⟨ω, s, q⟩ => ⟨ω, s, ?_⟩
  unfold sPar at q
  cases hf : f sl st with
  | fail => rw [hf] at q; exact q
  | exc z st1 => rw [hf] at q; exact fun cls d ω' H' e s' r => q cls d σ ω' H' e s' r
  | ok evs st1 =>
    rw [hf] at q
    dsimp only at q
    intro vs ω1 H1 x1 s1 hv
    cases hd : fixAll st1 evs with
    | none => rw [hd] at q; exact q.elim
    | some p =>
      obtain ⟨ds, st2⟩ := p
      rw [hd] at q
      have hm := hsf _ _ _ _ hf
      obtain ⟨ω2, x2, s2, r2⟩ := VRs.fix (evs := evs) (ω := ω1) s1 (by rw [hm]; exact hv) (by rw [hm]; exact hd)
      split at q
      · rename_i d e st3 he
        cases he
        cases r2 with
        | cons r3 r2 =>
          cases r2 with
          | cons r4 r2 =>
            cases r2
            have sA : SR B ω2 H1 (σ.set i (some _)) (sl.set i (.val d)) st2 := s2.set ⟨_, rfl, r3⟩
            exact ⟨_, _, rfl, q _ ω2 H1 (x1.trans x2) (sA.set ⟨_, rfl, r4⟩)⟩
      · exact q.elim
end
theorem hu1 {k : Nat} {A : Around} (hr : Room k A) : A.units + 1 < cLine := by have := hu65 hr; omega
theorem kit_three {K : PySem.W.Frag} {t c1 c2 c3 : Value} {b b2 b3 : Bool} (h1 : PySem.W.kitOne K t c1 = some b) (h2 : PySem.W.kitOne K t c2 = some b2) (h3 : PySem.W.kitOne K t c3 = some b3) : PySem.W.kitAny K t [c1, c2, c3] = some (b || (b2 || b3)) :=
  kitAny_cons h1 (fun z => kitAny_cons h2 (fun y => kitAny_cons h3 (fun x => by rw [z, y, x]; exact kitAny_nil) (fun x => by rw [z, y, x]; rfl)) (fun y => by rw [z, y]; rfl)) (fun z => by rw [z]; rfl)
end Px
/-! PxZ6: comprehensions of two fors -/
namespace Px
open PySem PySem.Spec PyProof.Rows L2
section
variable {X : Cx} {ct : Gx} {W : WX}
theorem SI.allG {tg it : Expr} {f : FI} (h : SI X ct W tg it f) {B : Bs} (hB : B.K = X.K) (hc : B.ct = ct) : PI X tg it (fun σ H R => ∃ p sl st ω, SR (B.guard p) ω H σ sl st ∧ OutI (B.guard p) W X σ ω H sl (f sl st) R) :=
  ⟨fun pins s σ H R I ⟨p, sl, st, q⟩ => (h (B.guard p) hB hc sl st).run pins s σ H R I q⟩
theorem Walks.k {X' : Cx} (e : X'.K = X.K) {F : Addr → Prop} {H : Hp} {J : It} {ds : List PyData} (w : Walks X' F H J ds) : Walks X F H J ds :=
  ⟨w.go, w.stop, fun F' H' i x H'' d a b c y => by rw [← e]; exact w.yld F' H' i x H'' d a b c y⟩
theorem OutI.k {X' : Cx} (e : X'.K = X.K) {B : Bs} {V : WX} {σ : L2.St} {ω : Wd} {H : Hp} {sl : Sls} {R : It → Hp → Prop} : ∀ {r : Re (List PyData)}, OutI B V X σ ω H sl r R → OutI B V X' σ ω H sl r R
  | .fail, h => h
  | .ok ds st, h => fun J ω' H' x s w => h J ω' H' x s (w.k e)
  | .exc x st, h => h
end
end Px
/-! PxZ7: calls whose last parameters take their defaults -/
namespace Px
open PySem PySem.Spec PyProof.Rows L2
section
variable {X : Cx} {ct : Gx} {W : WX}
/-- the arguments, and behind them these data -/
def aDfl (fa : FA) (ds : List PyData) : FA := fun sl st => match fa sl st with
  | .fail => .fail
  | .exc x st1 => .exc x st1
  | .ok evs st1 => .ok (evs ++ ds.map .val) st1
theorem soft_dfl {fa : FA} {ds : List PyData} (h : SoftA fa) : SoftA (aDfl fa ds) := fun sl st evs st' e => by
  unfold aDfl at e
  cases hf : fa sl st with
  | fail => rw [hf] at e; cases e
  | exc x st1 => rw [hf] at e; cases e
  | ok evs1 st1 =>
    rw [hf] at e
    cases e
    rw [List.map_append, h _ _ _ _ hf, List.map_map]
    rfl
theorem VRs.dfl {B : Bs} {ω : Wd} {H : Hp} : ∀ {vs : List V} {evs : List EV} {dvs : List V} {ds : List PyData}, VRs B ω H vs evs → Paired (fun v d => ∀ F H, Rp B.K F H v d) dvs ds → VRs B ω H (vs ++ dvs) (evs ++ ds.map .val)
  | _, _, [], [], h, .nil => by simpa using h
  | [], [], v :: dvs, d :: ds, .nil, .cons a b => .cons (a _ _) (VRs.dfl (vs := []) (evs := []) .nil b)
  | _ :: _, _ :: _, _, _, .cons a b, q => .cons a (VRs.dfl b q)
theorem se_callD {k n : Nat} {f : Addr} {fd : FuncData} {ps : List Str} {D : FD} {x : Str} {p pos : Pos} {e : Expr} {es : List Expr} {fa : FA} {us0 : List Value} {dvs : List V} {ds : List PyData} (ms : List Bool) (F : FnG X.prog X.w X.K X.mg X.base (L2.CX X.prog X.w) k f fd ps (spOf X.K ct n D)) (hn : ms.length = n) (hr : Room k X.A) (quiet : X.A.guards = some []) (hg : Gl X x) (hm : X.mg x = some (.ref f))
    (hk : PySem.W.keepIn X.K (.ref f) = true) (hb : Binds X.K fd ps us0) (hv : Vals dvs us0) (hd : ∀ K : PySem.W.Frag, Paired (fun v d => ∀ F H, Rp K F H v d) dvs ds) (tk : Takes X W) (ha : SA X ct W (e :: es) fa) (hs : SoftA fa) (hdb : (x == ("__debug__" : Str)) = false := by decide)
    (he : starEach (e :: es) X.env = (false, eval e X.env) :: starEach es X.env := by rfl) (hpl : (backTo pos (starEach es X.env)).any (·.1) = false := by rfl) : SE X ct W (.Call (.Name x p) (e :: es) [] pos) (eCall D ms (aDfl fa ds)) := by
  intro B hB hc sl st
  refine ⟨fun pins s σ H Q I ⟨ω, sr, q⟩ => ?_⟩
  refine wpAny_Call_Name_kw (ld_glob I hg hm ?_ hdb)
  have read := call_read (t := fun σ H Q => ∃ ω, SR B ω H σ sl st ∧ OutA B W σ ω H sl (fa sl st) fun vs H1 => Q (vs ++ dvs) H1) hB hc hn (soft_dfl hs) sr (fun Q' h => ⟨ω, sr, by
    unfold aDfl at h
    cases hf : fa sl st with
    | fail => rw [hf] at h; exact h
    | exc x st1 => rw [hf] at h; exact h
    | ok evs st1 =>
      rw [hf] at h
      exact fun vs ω' H' x s' r => h (vs ++ dvs) ω' H' x s' (VRs.dfl r (hd B.K))⟩) q
  refine PySem.W.callWith_K (h₀ := X.base) I.ok.mod.kin hk (thn ((ha B hB hc sl st).run pos pins s σ H _ I read) fun us s1 ⟨vs, H1, I1, r, q1⟩ => ⟨I1.kIn, ?_⟩) he hpl
  have rr := r.append hv
  have bound := hb s1 us I1.kIn (by rw [← rr.length]; exact F.len _ _ _ _ q1)
  refine wpAny_call (codeAny_mono (F.run X.A X.stack s1 H1 ⟨us, []⟩ (us ++ us0) (vs ++ dvs) Q _ hr quiet I1.env0 bound rr q1) fun res s2 h2 => ?_)
  cases res with
  | error e => exact passAt tk σ pins H1 s1 e s2 I1 h2
  | ok fl =>
    cases fl with
    | ret u => exact I1.after h2
    | next => exact False.elim h2
    | brk => exact False.elim h2
    | cont => exact False.elim h2
end
end Px
/-! PxZ8: places in lists and tuples, keywords said, two lists side by side -/
namespace Px
open PySem PySem.Spec PyProof.Rows L2

/-! ### xs.index(e) -/
section
variable {X : Cx} {ct : Gx} {W : WX}
/-- a tuple without a dict of its own -/
def NoD (K : PySem.W.Frag) (H : Hp) (x : V) : Prop := ∃ (a : Addr) (xs : List V), x = .ref a ∧ FzT K (fun _ => True) H a xs
theorem NoD.is {pins : List (Addr × Obj)} {σ : L2.St} {H : Hp} {s : Shared} {x : V} {v : Value} (I : L2.Inv X pins σ H s) (r : RelV x v) (h : NoD X.K H x) : s.TypeIs v "tuple" ∧ ∀ a, v = .ref a → ∃ ob, s.heap.get? a = some ob ∧ ob.dict = none := by
  obtain ⟨a, xs, rfl, h⟩ := h
  cases (show v = Value.ref a from r)
  rcases h with ⟨_, o, h, d⟩ | ⟨o, its, n, h1, h2, h3, h4, _⟩
  · obtain ⟨g, _, _, _, t⟩ := I.hok a _ h
    obtain ⟨o2, g2, c, _⟩ := t
    rw [g] at g2
    cases g2
    exact ⟨⟨o, g, c⟩, fun b e => by cases e; exact ⟨o, g, d⟩⟩
  · have g := I.kIn a o h1
    exact ⟨⟨o, g, h2⟩, fun b e => by cases e; exact ⟨o, g, h3⟩⟩
section
variable {X : Cx} {ct : Gx} {W : WX}
end
end
end Px
/-! PxZ9: sorted(set(xs)) of whole numbers; keywords said; two lists side by side -/
namespace Px
open PySem PySem.Spec PyProof.Rows L2
/-! ### set(xs), xs a list of whole numbers -/
section
variable {P : Program} {w : World} {A : Around} {E : Value → Shared → Prop} {sh : Shared}
end
section
variable {X : Cx} {ct : Gx} {W : WX}
end
end Px
/-! PxZ10: keywords said; two lists side by side -/
namespace Px
open PySem PySem.Spec PyProof.Rows L2
section
variable {X : Cx} {ct : Gx} {W : WX}
end

/-! ### zip of two lists -/
section
variable {X : Cx} {ct : Gx} {W : WX}
end
end Px
/-! PxZ11: in: of anything, also of what holds {}, among data of numbers, texts and tuples -/
namespace Px
open PySem PySem.Spec PyProof.Rows L2 PySem.SeqAt

section
variable {A : Around} {s : Shared}
end
mutual
/-- numbers, texts, tuples of these -/
def plainB : PyData → Bool
  | .int _ => true
  | .str _ => true
  | .tuple ds => plainBs ds
  | _ => false
def plainBs : List PyData → Bool
  | [] => true
  | d :: ds => plainB d && plainBs ds
end
section
variable {X : Cx} {pins : List (Addr × Obj)} {σ : L2.St} {H : Hp} {s : Shared} {F : Addr → Prop}
theorem depth_tup (zs : List PyData) : (PyData.tuple zs).depth = PyData.depthAll zs + 1 := by simp only [PyData.depth]
end
end Px
/-! PxRp: what repr tells of two things apart -/
namespace Px
open PySem PySem.Spec PyProof.Rows L2 Builtin.Str
def Zt (d : PyData) : List Nat := d.shown.cps.toList
/-- things met here: texts below 128, of dicts the empty one alone -/
inductive Gen : PyData → Prop
  | none : Gen .none
  | bool (b : Bool) : Gen (.bool b)
  | int (i : Int) : Gen (.int i)
  | str (s : Str) : (∀ c ∈ s.cps.toList, c < 128) → Gen (.str s)
  | list (ds : List PyData) : (∀ d ∈ ds, Gen d) → Gen (.list ds)
  | tuple (ds : List PyData) : (∀ d ∈ ds, Gen d) → Gen (.tuple ds)
  | dict : Gen (.dict [])
mutual
/-- texts of small letters, one figure, tuples of these -/
def niceB : PyData → Bool
  | .int i => decide (0 ≤ i) && decide (i < 10)
  | .str s => s.cps.toList.all fun c => decide (97 ≤ c) && decide (c ≤ 122)
  | .tuple ds => niceBs ds
  | _ => false
def niceBs : List PyData → Bool
  | [] => true
  | d :: ds => niceB d && niceBs ds
end
def jn : List (List Nat) → List Nat
  | [] => []
  | [x] => x
  | x :: y :: r => x ++ 44 :: 32 :: jn (y :: r)
theorem join_jn : ∀ ts : List Str, (Str.join (Str.ofString ", ") ts).cps.toList = jn (ts.map fun t => t.cps.toList)
  | [] => rfl
  | [x] => rfl
  | x :: y :: r => by
    rw [join_cons_cons, cps_toList_append, cps_toList_append, join_jn (y :: r)]
    have e : (Str.ofString ", ").cps.toList = [44, 32] := by decide
    rw [e]
    show _ = x.cps.toList ++ 44 :: 32 :: jn ((y :: r).map fun t => t.cps.toList)
    rw [List.append_assoc]
    rfl
theorem shownAll_map : ∀ ds : List PyData, (PyData.shownAll ds).map (fun t => t.cps.toList) = ds.map Zt
  | [] => by simp only [PyData.shownAll, List.map_nil]
  | d :: ds => by
    simp only [PyData.shownAll, List.map_cons, shownAll_map ds]
    rfl
theorem Zt_tuple (ds : List PyData) : Zt (.tuple ds) = 40 :: (jn (ds.map Zt) ++ if ds.length = 1 then [44, 41] else [41]) := by
  unfold Zt
  rw [PyData.shown_tuple, cps_toList_append, cps_toList_append, join_jn, shownAll_map]
  have e : (Str.ofString "(").cps.toList = [40] := by decide
  rw [e]
  by_cases h : ds.length = 1
  · rw [if_pos h, h]
    rfl
  · rw [if_neg h, if_neg (by simpa using h)]
    rfl
end Px
/-! PxZ12: count; what is caught handed to a def; one of many defs called -/
namespace Px
open PySem PySem.Spec PyProof.Rows L2

/-! ### xs.count(e), xs a list -/
section
variable {X : Cx} {ct : Gx} {W : WX}
end

/-! ### isinstance(e, C), C built in -/
theorem kit_ty {K : PySem.W.Frag} {D : Addr} {T : String} {b : Bool} (hT : PySem.W.kitMeta T = true) (h : PySem.W.subIn K (.ref D) (.type T) = some b) : PySem.W.kitOne K (.ref D) (.type T) = some b := by
  unfold PySem.W.kitOne
  rw [if_neg (by intro z; exact nomatch (eq_of_beq z))]
  show (if PySem.W.kitMeta T = true then PySem.W.subIn K (.ref D) (.type T) else none) = some b
  rw [if_pos hT]
  exact h
section
variable {X : Cx} {ct : Gx} {W : WX}
end
end Px
/-! PxZ13: what is caught handed to a def; one of many defs called -/
namespace Px
open PySem PySem.Spec PyProof.Rows L2 L2H

/-! ### a def of what is caught -/
structure FnE (P : Program) (w : World) (K : PySem.W.Frag) (mg : Str → Option Value) (base : Heap) (CX : CXT) (ct : Gx) (k : Nat) (f : Addr) (fd : FuncData) (p : Str) (D : Exn → DR) : Prop where
  run : ∀ (A : Around) (outer : List Env) (s : Shared) (H : Hp) (args : Args) (a : Addr) (oe : Obj) (C : Addr) (y : Exn) (d : PyData) (F : Addr → Prop) (Q : VK) (E : XK), Room k A → A.guards = some [] → ct.tab y.nm = some C → Zc (.ref C) none oe → (∃ vs, oe.data = .fields vs) →
    PinOk outer H s (a, oe) → Env0 P w K mg base (A.mark (some (.ref a))) outer s H → BindsTo s fd args [(p, .ref a)] → (∀ b, F b → H b ≠ none) → D y = .rt d [] → (∀ v F' H', Post K F H [] F' H' [] → Rp K F' H' v d → Q v H') →
    codeAny (model P w) (A.mark (some (.ref a))) (.call (.ref f) args) (CR CX outer P w H s Q E) s
section
variable {X : Cx} {ct : Gx} {W : WX}
end
end Px
/-! PxZ14: one of many defs called -/
namespace Px
open PySem PySem.Spec PyProof.Rows L2

section
variable {X : Cx} {ct : Gx} {W : WX}
/-! ### one of a list of defs -/
/-! ### a name for one of the defs -/
def cool (sl : Sls) : Sls := sl.map fun t => match t with
  | .hot _ => .non
  | t => t
theorem SR.cool {B : Bs} {ω : Wd} {H : Hp} {σ : L2.St} {sl : Sls} {st : Sto} {a : Addr} {x : Exn} (s : SR (B.at a x) ω H σ sl st) : SR B ω H σ (cool sl) st := by
  unfold Px.cool
  refine ⟨by rw [List.length_map]; exact s.len, s.dom, s.keep, s.newF, s.oldF, s.adl, s.nd, s.iop, s.adn, s.ioc, s.ioc2, s.there, s.prF, s.prA, s.prH, fun j t h => ?_, s.cell⟩
  rw [List.getElem?_map] at h
  cases hj : sl[j]? with
  | none => rw [hj] at h; cases h
  | some u =>
    rw [hj] at h
    have r := s.slot j u hj
    cases u with
    | non => cases h; exact r
    | val d => cases h; exact r
    | ref n => cases h; exact r
    | hot z => cases h; exact trivial
end
end Px
namespace Px
open PySem PySem.Spec PyProof.Rows L2
end Px
/-! PxZ15: sorted of data, < of data, type(x) is T, == of tuples and anything -/
namespace Px
open PySem PySem.Spec PyProof.Rows L2 PySem.SeqAt

/-! ### sorted(t), t a tuple, over the heap -/
section
variable {prog : Program} {w : World} {A : Around} {E : Value → Shared → Prop} {s : Shared}
end

/-! ### sorted(xs), xs a list or a tuple of tuples -/
section
variable {X : Cx} {ct : Gx} {W : WX}
end
end Px
/-! PxZ16: type(x) is T; == of tuples and anything; < of tuples -/
namespace Px
open PySem PySem.Spec PyProof.Rows L2 PySem.SeqAt
section
variable {X : Cx} {ct : Gx} {W : WX}
/-! ### type(x) is T -/
theorem Bp.tIs {pins : List (Addr × Obj)} {σ : L2.St} {H : Hp} {s : Shared} {F : Addr → Prop} {x : V} {u : Value} {d : PyData} (I : L2.Inv X pins σ H s) (b : Bp X.K F H x d) (rx : RelV x u) : s.TypeIs u (kindOf d) ∧ (Value.type (kindOf d) == Value.type "builtin_function_or_method") = false := by
  refine ⟨?_, by cases d <;> (simp only [kindOf]; decide +kernel)⟩
  cases d with
  | none => cases b.non_; cases (show u = Value.none from rx); rfl
  | bool k => cases b.bl_; cases (show u = Value.bool k from rx); rfl
  | int i => cases b.int_; obtain ⟨t, rfl⟩ := rx; rfl
  | str z => cases b.str_; obtain ⟨t, rfl⟩ := rx; rfl
  | list ds =>
    obtain ⟨a, vs, rfl, hs, _⟩ := b.list_
    cases (show u = Value.ref a from rx)
    obtain ⟨its, rv, pl, hz⟩ := I.list hs
    exact pl.isList.typeIs
  | tuple ds =>
    obtain ⟨a, vs, rfl, hs, _⟩ := b.tup_
    cases (show u = Value.ref a from rx)
    obtain ⟨its, rv, ⟨o, h1, h2, _⟩, hz⟩ := I.tuple hs
    exact ⟨o, h1, h2⟩
  | dict ds =>
    obtain ⟨a, vs, rfl, hs, _⟩ := b.dic_
    cases (show u = Value.ref a from rx)
    obtain ⟨_, _, o, h1, h2, _⟩ := dict_seen I hs
    exact ⟨o, h1, h2⟩
def rTyD (K : PySem.W.Frag) : List V → Hp → VK → Prop := fun xs H Q => ∃ (x : V) (F : Addr → Prop) (d : PyData), xs = [x] ∧ Bp K F H x d ∧ Q (.ty (kindOf d)) H
theorem call_tyD : CallR X (.type "type") (rTyD X.K) := by
  intro pins s σ H xs us Q I r h
  obtain ⟨x, F, d, rfl, b, q⟩ := h
  obtain ⟨u, rfl, rx⟩ := vals1 r
  obtain ⟨h1, h2⟩ := b.tIs I rx
  exact call_type_of h1 h2 ⟨.ty (kindOf d), H, I, rfl, q⟩
def tyIsD (T : String) : PyData → Option OR := fun d => some (.val (.bool (decide (kindOf d = T))))
def tyNotD (T : String) : PyData → Option OR := fun d => some (.val (.bool (!decide (kindOf d = T))))
theorem bt_type : bootBuiltins "type" = some (.type "type") := by first | rfl | kernel_rfl
theorem se_tyIs {T : String} {x y : Str} {p p2 pos pos2 : Pos} {e : Expr} {f : FE} (hx : x = "type") (hg : Gl X x) (hm : X.mg x = none) (gy : Gl X y) (my : X.mg y = none) (vy : bootBuiltins y = some (.type T)) (he : SE X ct W e f)
    (ny : y ≠ "__name__" := by decide) (dy : (y == ("__debug__" : Str)) = false := by decide) (na : starEach [e] X.env = (false, eval e X.env) :: starEach [] X.env := by rfl) (hk : behindInMarks .Is (.Name y p2) = false := by rfl) :
    SE X ct W (.Compare (.Call (.Name x p) [e] [] pos) [.Is] [.Name y p2] pos2) (u1 (tyIsD T) f) := by
  subst hx
  refine se_u1 (r := fun x H Q => rTyD X.K [x] H fun y H2 => ∃ a b, y = .ty a ∧ V.ty T = .ty b ∧ Q (.bl (decide (a = b))) H2) (fun ta ha => ?_) he fun F H v d o Q dm b e gv => ?_
  · exact pe_cmpR op_isTyB (pe_callTy call_tyD hg hm bt_type (pa_cons ha pa_nil na) (by decide) (by decide) na rfl) (pe_bltn (v := .ty T) gy my vy rfl ny dy) hk
  · cases e
    exact ⟨v, F, d, rfl, b, kindOf d, T, rfl, rfl, gv.here dm (.bl _)⟩
/-! ### == of a tuple and anything -/
/-! ### < of tuples -/
end
end Px
/-! PxZ17: enumerate of a list -/
namespace Px
open PySem PySem.Spec PyProof.Rows L2
/-- each item behind its number -/
def numbered (n : Nat) : List PyData → List PyData
  | [] => []
  | d :: ds => .tuple [.int n, d] :: numbered (n + 1) ds
section
variable {X : Cx} {ct : Gx} {W : WX}
end
end Px
/-! PxZ18: a tuple so many times; isinstance of one of many classes -/
namespace Px
open PySem PySem.Spec PyProof.Rows L2
section
variable {X : Cx} {ct : Gx} {W : WX}
theorem RpA.rep {K : PySem.W.Frag} {F : Addr → Prop} {H : Hp} {xs : List V} {ds : List PyData} (r : RpA K F H xs ds) : ∀ n : Nat, RpA K F H (List.replicate n xs).flatten (List.replicate n ds).flatten
  | 0 => .nil
  | n + 1 => by
    rw [List.replicate_succ, List.replicate_succ, List.flatten_cons, List.flatten_cons]
    exact r.append (RpA.rep r n)
/-! ### isinstance(e, (A, B, ..)) -/
end
section
variable {X : Cx}
/-! ### x is not None -/
end
section
variable {X : Cx} {ct : Gx} {W : WX}
theorem st_ty {op : CmpOp} {T : String} {g : PyData → Option OR} {gb : PyData → Bool} {x y : Str} {p p2 pos pos2 : Pos} {e : Expr} {f : FE} {r : R2} (ho : OpR X (compareOp op) r) (hr : ∀ d H Q, Q (.bl (gb d)) H → r (.ty (kindOf d)) (.ty T) H Q) (hgb : ∀ d, g d = some (.val (.bool (gb d))))
    (hx : x = "type") (hg : Gl X x) (hm : X.mg x = none) (gy : Gl X y) (my : X.mg y = none) (vy : bootBuiltins y = some (.type T)) (he : SE X ct W e f)
    (ny : y ≠ "__name__") (dy : (y == ("__debug__" : Str)) = false) (na : starEach [e] X.env = (false, eval e X.env) :: starEach [] X.env) (hk : behindInMarks op (.Name y p2) = false) :
    ST X ct W (.Compare (.Call (.Name x p) [e] [] pos) [op] [.Name y p2] pos2) (tst (u1 g f)) := by
  subst hx
  intro B hB hc sl st
  refine pt_imp (pt_cmpR ho (pe_callTy call_tyD hg hm bt_type (pa_cons (he B hB hc sl st) pa_nil na) (by decide) (by decide) na rfl) (pe_bltn (v := .ty T) gy my vy rfl ny dy) hk) fun σ H Q ⟨ω, s, q⟩ => ⟨ω, s, ?_⟩
  unfold tst u1 at q
  cases hf : f sl st with
  | fail => rw [hf] at q; exact q.elim
  | exc x st1 => rw [hf] at q; exact q
  | ok ev st1 =>
    rw [hf] at q
    intro v ω1 H1 x1 s1 hv
    dsimp only at q
    cases hd : ev.dat st1 with
    | none => rw [hd] at q; exact q.elim
    | some d =>
      rw [hd] at q
      dsimp only at q
      rw [hgb d] at q
      have b := VR.bp s1 hv hd
      rw [hB] at b
      exact ⟨v, ω1.F, d, rfl, b, hr d H1 _ ⟨gb d, rfl, q ω1 H1 x1 s1⟩⟩
theorem st_tyIs {T : String} {x y : Str} {p p2 pos pos2 : Pos} {e : Expr} {f : FE} (hx : x = "type") (hg : Gl X x) (hm : X.mg x = none) (gy : Gl X y) (my : X.mg y = none) (vy : bootBuiltins y = some (.type T)) (he : SE X ct W e f)
    (ny : y ≠ "__name__" := by decide) (dy : (y == ("__debug__" : Str)) = false := by decide) (na : starEach [e] X.env = (false, eval e X.env) :: starEach [] X.env := by rfl) (hk : behindInMarks .Is (.Name y p2) = false := by rfl) :
    ST X ct W (.Compare (.Call (.Name x p) [e] [] pos) [.Is] [.Name y p2] pos2) (tst (u1 (tyIsD T) f)) :=
  st_ty op_isTyB (fun d H Q q => ⟨kindOf d, T, rfl, rfl, q⟩) (fun d => rfl) hx hg hm gy my vy he ny dy na hk
theorem st_tyNot {T : String} {x y : Str} {p p2 pos pos2 : Pos} {e : Expr} {f : FE} (hx : x = "type") (hg : Gl X x) (hm : X.mg x = none) (gy : Gl X y) (my : X.mg y = none) (vy : bootBuiltins y = some (.type T)) (he : SE X ct W e f)
    (ny : y ≠ "__name__" := by decide) (dy : (y == ("__debug__" : Str)) = false := by decide) (na : starEach [e] X.env = (false, eval e X.env) :: starEach [] X.env := by rfl) (hk : behindInMarks .IsNot (.Name y p2) = false := by rfl) :
    ST X ct W (.Compare (.Call (.Name x p) [e] [] pos) [.IsNot] [.Name y p2] pos2) (tst (u1 (tyNotD T) f)) :=
  st_ty op_notTyB (fun d H Q q => ⟨kindOf d, T, rfl, rfl, q⟩) (fun d => rfl) hx hg hm gy my vy he ny dy na hk
end
end Px
/-! PxPm: tuple(permutations(range(n))), n from 1 to 3, at the library's level -/
namespace PmR
open PySem PySem.Spec PyProof.Rows

/-! ### facts of the type -/
end PmR
/-! PxPn: the iterator of permutations, step by step -/
namespace PmR
open PySem PySem.Spec PyProof.Rows

/-! ### the object -/
section
variable {prog : Program} {w : World} {A : Around} {E : Value → Shared → Prop} {s : Shared} {r : Addr} {t u v : Tok} {n : Nat}
/-! ### the steps -/
abbrev tupO (xs : Array Value) : Obj := { cls := .type "tuple", data := .seq xs }
section
open Builtin Builtin.Itertools
end
end
end PmR
/-! PxPo: tuple(permutations(range(n))), n from 1 to 3 -/
namespace PmR
open PySem PySem.Spec PyProof.Rows

/-- the numbers of the record behind each item -/
def tab : Nat → List (List Nat)
  | 1 => [[0, 1]]
  | 2 => [[0, 1, 2, 1], [1, 0, 1, 1]]
  | 3 => [[0, 1, 2, 3, 2, 1], [0, 2, 1, 3, 1, 1], [1, 0, 2, 2, 2, 1], [1, 2, 0, 2, 1, 1], [2, 0, 1, 1, 2, 1], [2, 1, 0, 1, 1, 1]]
  | _ => []
/-- tuples of the items at the places ps stand at as -/
abbrev itsAt (items : Array Value) (p : List Nat) : Array Value := (p.map fun i => items.getD i .none).toArray
def TAt (h : Heap) (items : Array Value) : List Addr → List (List Nat) → Prop := Paired fun a p => h.get? a = some (tupO (itsAt items p))
theorem TAt.keep {h h' : Heap} {items : Array Value} (k : ∀ b o, h.get? b = some o → h'.get? b = some o) : ∀ {as : List Addr} {ps : List (List Nat)}, TAt h items as ps → TAt h' items as ps
  | _, _, .nil => .nil
  | _, _, .cons a r => .cons (k _ _ a) (TAt.keep k r)
section
variable {prog : Program} {w : World} {A : Around} {E : Value → Shared → Prop} {s : Shared} {n : Nat}
theorem TAt.length {h : Heap} {items : Array Value} {as : List Addr} {ps : List (List Nat)} (t : TAt h items as ps) : as.length = ps.length := Paired.length t
end
end PmR
/-! PxZ19: tuple(permutations(range(n))), list(range(n)), tuple(range(n)) -/
namespace Px
open PySem PySem.Spec PyProof.Rows L2 PmR

/-! ### several new things tracked at once -/
/-! ### tuple(permutations(range(n))) -/
theorem TAt.mem {h : Heap} {items : Array Value} : ∀ {as : List Addr} {ps : List (List Nat)}, TAt h items as ps → ∀ x ∈ as.zip ps, h.get? x.1 = some (tupO (itsAt items x.2))
  | _, _, .nil, x, hx => by cases hx
  | _, _, .cons a r, x, hx => by
    rcases List.mem_cons.mp hx with rfl | hx
    · exact a
    · exact TAt.mem r x hx
section
variable {X : Cx} {a : Expr} {ta : TE}
end

/-! ### in Px -/
section
variable {X : Cx} {ct : Gx} {W : WX} {a : Expr} {f : FE}
/-! ### list(range(n)), tuple(range(n)) -/
end
end Px
/-! PxZ20: dicts whose keys are tuples: d[k] = v, d[k], sorted(d) -/
namespace Px
open PySem PySem.Spec PyProof.Rows L2

/-! ### data as keys -/
section
variable {X : Cx} {pins : List (Addr × Obj)} {σ : L2.St} {H : Hp} {s : Shared} {F : Addr → Prop}
mutual
theorem Rp.nested (I : L2.Inv X pins σ H s) : ∀ (d : PyData) (v : V) (u : Value) (k : NestedKey), keyN d = some k → Rp X.K F H v d → RelV v u → NestedIs s.heap k u
  | .none, _, _, k, e, h, r => by
    cases h; cases r
    simp only [keyN] at e
    cases e
    exact .none
  | .int i, _, _, k, e, h, r => by
    cases h
    obtain ⟨t, rfl⟩ := r
    simp only [keyN] at e
    cases e
    exact .int i t
  | .str x, _, _, k, e, h, r => by
    cases h
    obtain ⟨t, rfl⟩ := r
    simp only [keyN] at e
    cases e
    exact .text x t
  | .tuple ds, _, _, k, e, h, r => by
    cases h with
    | tup f q =>
      rename_i a xs
      cases r
      simp only [keyN] at e
      obtain ⟨ks, e1, rfl⟩ := Option.map_eq_some_iff.mp e
      obtain ⟨its, rv, ht, hz⟩ := I.tuple f.sq
      obtain ⟨o, ho, hc, n, hd⟩ := ht
      exact .tup ho hc hd (RpA.nested I ds xs its ks e1 q rv)
  | .bool b, _, _, k, e, _, _ => by simp only [keyN] at e; cases e
  | .list l, _, _, k, e, _, _ => by simp only [keyN] at e; cases e
  | .dict l, _, _, k, e, _, _ => by simp only [keyN] at e; cases e
theorem RpA.nested (I : L2.Inv X pins σ H s) : ∀ (ds : List PyData) (vs : List V) (us : List Value) (ks : List NestedKey), keyNs ds = some ks → RpA X.K F H vs ds → Vals vs us → NestedAll s.heap ks us
  | [], _, _, ks, e, h, r => by
    cases h; cases r
    simp only [keyNs] at e
    cases e
    exact .nil
  | d :: ds, _, _, ks, e, h, r => by
    cases h with
    | cons h1 h2 =>
      cases r with
      | cons r1 r2 =>
        simp only [keyNs] at e
        cases e1 : keyN d with
        | none => rw [e1] at e; cases e
        | some k =>
          cases e2 : keyNs ds with
          | none => rw [e1, e2] at e; cases e
          | some ks2 =>
            rw [e1, e2] at e
            cases e
            exact .cons (Rp.nested I d _ _ k e1 h1 r1) (RpA.nested I ds _ _ ks2 e2 h2 r2)
end
end

/-! ### data's own way -/
def putTD (kd vd : PyData) (kvs : List (PyData × PyData)) : List (PyData × PyData) :=
  if (kvs.find? fun p => decide (keyN p.1 = keyN kd)).isSome then kvs.map fun p => if keyN p.1 = keyN kd then (p.1, vd) else p else kvs ++ [(kd, vd)]
section
variable {K : PySem.W.Frag} {F : Addr → Prop} {H : Hp}
theorem KdX.length : ∀ {xs : List (NestedKey × Addr × Value)} {kvs : List (PyData × PyData)}, KdX K F H xs kvs → xs.length = kvs.length
  | _, _, .nil => rfl
  | _, _, .cons _ _ _ _ _ r => congrArg (· + 1) r.length
theorem KdX.at {kd : PyData} {k : NestedKey} (hk : keyN kd = some k) : ∀ {xs : List (NestedKey × Addr × Value)} {kvs : List (PyData × PyData)}, KdX K F H xs kvs →
    (atKey xs k = none ∧ kvs.find? (fun p => decide (keyN p.1 = keyN kd)) = none) ∨ ∃ a u v p, atKey xs k = some (a, u) ∧ kvs.find? (fun p => decide (keyN p.1 = keyN kd)) = some p ∧ RelV v u ∧ Rp K F H v p.2
  | _, _, .nil => .inl ⟨rfl, rfl⟩
  | _, _, @KdX.cons _ _ _ k' a u v kd' vd xs kvs h1 h2 h3 h4 h5 r => by
    by_cases e : k' = k
    · refine .inr ⟨a, u, v, (kd', vd), ?_, ?_, h4, h5⟩
      · simp [atKey, e]
      · rw [List.find?_cons, h1, hk, e]
        simp
    · have e2 : decide (keyN kd' = keyN kd) = false := by rw [h1, hk]; exact decide_eq_false fun z => e (Option.some.inj z)
      have e3 : atKey ((k', a, u) :: xs) k = atKey xs k := by simp [atKey, List.find?_cons, e]
      rw [e3, List.find?_cons, e2]
      exact KdX.at hk r
theorem KdX.putAll {kd vd : PyData} {k : NestedKey} {v : V} {u : Value} (hk : keyN kd = some k) (hr : RelV v u) (hv : Rp K F H v vd) : ∀ {xs : List (NestedKey × Addr × Value)} {kvs : List (PyData × PyData)}, KdX K F H xs kvs →
    KdX K F H (xs.map (PySem.putAt k u)) (kvs.map fun p => if keyN p.1 = keyN kd then (p.1, vd) else p)
  | _, _, .nil => .nil
  | _, _, @KdX.cons _ _ _ k' a u' v' kd' vd' xs kvs h1 h2 h3 h4 h5 r => by
    rw [List.map_cons, List.map_cons]
    by_cases e : k' = k
    · have e2 : keyN kd' = keyN kd := by rw [h1, hk, e]
      rw [if_pos e2, PySem.putAt, if_pos e]
      exact .cons h1 h2 h3 hr hv (KdX.putAll hk hr hv r)
    · have e2 : ¬ keyN kd' = keyN kd := by rw [h1, hk]; exact fun z => e (Option.some.inj z)
      rw [if_neg e2, PySem.putAt, if_neg e]
      exact .cons h1 h2 h3 h4 h5 (KdX.putAll hk hr hv r)
theorem KdX.snoc {xs : List (NestedKey × Addr × Value)} {kvs : List (PyData × PyData)} (r : KdX K F H xs kvs) {ys : List (NestedKey × Addr × Value)} {lvs : List (PyData × PyData)} (t : KdX K F H ys lvs) : KdX K F H (xs ++ ys) (kvs ++ lvs) := by
  induction r with
  | nil => exact t
  | cons h1 h2 h3 h4 h5 _ ih => exact .cons h1 h2 h3 h4 h5 ih
theorem KdX.put {kd vd : PyData} {k : NestedKey} {a : Addr} {v : V} {u : Value} (hk : keyN kd = some k) (hd : k.depth ≤ 8) (ha : Rp K F H (.ref a) kd) (hr : RelV v u) (hv : Rp K F H v vd) {xs : List (NestedKey × Addr × Value)} {kvs : List (PyData × PyData)} (r : KdX K F H xs kvs) :
    KdX K F H (storedH xs k a u) (putTD kd vd kvs) := by
  unfold putTD
  rcases KdX.at hk r with ⟨e1, e2⟩ | ⟨b, w, y, p, e1, e2, _, _⟩
  · rw [storedH_new e1, e2, if_neg (by simp)]
    exact r.snoc (.cons hk hd ha hr hv .nil)
  · rw [storedH_old e1, e2, if_pos (by rfl)]
    exact r.putAll hk hr hv
end
/-! ### over the heap -/
section
variable {X : Cx} {pins : List (Addr × Obj)} {σ : L2.St} {H : Hp} {s : Shared} {F : Addr → Prop} {d : Addr} {xs : List (NestedKey × Addr × Value)} {kvs : List (PyData × PyData)}
end

/-! ### d[k] = v -/
section
variable {X : Cx} {ct : Gx} {W : WX} {o i value : Expr} {pos pos' : Pos} {td ty tv : TE}
end
end Px
/-! PxZ21: sorted(d), d a dict whose keys are tuples -/
namespace Px
open PySem PySem.Spec PyProof.Rows L2 PySem.SeqAt
def kdRefs (xs : List (NestedKey × Addr × Value)) : List V := xs.map fun x => V.ref x.2.1
theorem KdX.keys {K : PySem.W.Frag} {F : Addr → Prop} {H : Hp} : ∀ {xs : List (NestedKey × Addr × Value)} {kvs : List (PyData × PyData)}, KdX K F H xs kvs → RpA K F H (kdRefs xs) (kvs.map (·.1))
  | _, _, .nil => .nil
  | _, _, .cons _ _ h3 _ _ r => .cons h3 r.keys
section
variable {X : Cx} {ct : Gx} {W : WX}
end
end Px
/-! PxZ22: sorted(t), t a tuple or a list of ints -/
namespace Px
open PySem PySem.Spec PyProof.Rows L2 PySem.SeqAt
section
variable {X : Cx} {ct : Gx} {W : WX}
end
end Px
/-! PxZ23: sorted(d) of a dict by tuples that may hold one key alone, whatever it is -/
namespace Px
open PySem PySem.Spec PyProof.Rows L2 PySem.SeqAt
section
variable {X : Cx} {ct : Gx} {W : WX}
end
end Px
/-! PxZ24: not in, of a tuple of plain data -/
namespace Px
open PySem PySem.Spec PyProof.Rows L2 PySem.SeqAt
section
variable {X : Cx} {pins : List (Addr × Obj)} {σ : L2.St} {H : Hp} {s : Shared} {F : Addr → Prop}
end
end Px
/-! PxZ25: for k in d, for v in d.values(), {k: v for ..} -/
namespace Px
open PySem PySem.Spec PyProof.Rows L2
section
variable {X : Cx} {tg e : Expr} {td : TE} {apos cpos : Pos}
end
theorem RpD.leng {K : PySem.W.Frag} {F : Addr → Prop} {H : Hp} : ∀ {vs : List (Key × V)} {kvs : List (PyData × PyData)}, RpD K F H vs kvs → vs.length = kvs.length
  | _, _, .nil => rfl
  | _, _, .cons _ r => congrArg (· + 1) (RpD.leng r)
section
variable {X : Cx} {ct : Gx} {W : WX}
/-! ### dict comprehensions -/
def dcGo (h : FG) (t : FT) (fk fv : FE) (sl0 : Sls) : List PyData → Sto → List (PyData × PyData) → Option (List (PyData × PyData) × Sto)
  | [], st, acc => some (acc, st)
  | d :: ds, st, acc => match h d sl0 with
    | none => none
    | some sl1 => match t sl1 st with
      | .ok false st1 => dcGo h t fk fv sl0 ds st1 acc
      | .ok true st1 => match fk sl1 st1 with
        | .ok (.val (.str k)) st2 => match fv sl1 st2 with
          | .ok ev st3 => match ev.fix st3 with
            | none => none
            | some (e, st4) => if acc.length < Lim then dcGo h t fk fv sl0 ds st4 (putD (.inr k) e acc) else none
          | _ => none
        | _ => none
      | _ => none
def eDc (vs : List Nat) (fi : FI) (h : FG) (t : FT) (fk fv : FE) : FE := fun sl st => match fi sl st with
  | .fail => .fail
  | .exc x st1 => .exc x st1
  | .ok ds st1 => match dcGo h t fk fv (wipeS sl vs) ds st1 [] with
    | none => .fail
    | some (es, st2) => .ok (.new (.dic es)) st2
theorem dc_read {B : Bs} (hB : B.K = X.K) {fi : FI} {h : FG} {t : FT} {fk fv : FE} {vs ts : List Nat} (hts : ∀ i ∈ ts, i ∈ vs) {sl : Sls} {st : Sto} {σ : L2.St} {H : Hp} {Q : VK} {wi : TI}
    (hwi : ∀ σ H R, (∃ ω, SR B ω H σ sl st ∧ OutI B W X σ ω H sl (fi sl st) R) → wi σ H R) (q : ∃ ω, SR B ω H σ sl st ∧ OutE B W σ ω H sl (eDc vs fi h t fk fv sl st) Q) :
    tDc wi (fun v σ H Q => ∃ p sl sl' st d ω, h d sl = some sl' ∧ SR (B.guard p) ω H σ sl st ∧ Rp B.K ω.F H v d ∧ ∀ σ', Ts ts σ σ' → SR (B.guard p) ω H σ' sl' st → Q σ' H) (fun σ H Q => ∃ p sl st ω, SR (B.guard p) ω H σ sl st ∧ OutT (B.guard p) W0 σ ω H sl (t sl st) Q)
      (fun σ H Q => ∃ p sl st ω, SR (B.guard p) ω H σ sl st ∧ OutE (B.guard p) W0 σ ω H sl (fk sl st) Q) (fun σ H Q => ∃ p sl st ω, SR (B.guard p) ω H σ sl st ∧ OutE (B.guard p) W0 σ ω H sl (fv sl st) Q) vs σ H Q := by
  obtain ⟨ω, s, q⟩ := q
  refine hwi σ H _ ⟨ω, s, ?_⟩
  unfold eDc at q
  cases hf : fi sl st with
  | fail => rw [hf] at q; exact q
  | exc x st1 => rw [hf] at q; exact q
  | ok ds st1 =>
    rw [hf] at q
    dsimp only at q
    intro J ω1 H1 x1 s1 wk D hD
    cases hl : dcGo h t fk fv (wipeS sl vs) ds st1 [] with
    | none => rw [hl] at q; exact q.elim
    | some p =>
      obtain ⟨es, st2⟩ := p
      rw [hl] at q
      dsimp only at q
      obtain ⟨d1, d2, d3⟩ := s1.fresh hD
      let Wv : Nat → Nat → Hp → Prop := fun i m H' => i + m = ds.length ∧ ∃ ω' st' acc acs, SR (B.guard D) ω' H' (L2.wipe σ vs) (wipeS sl vs) st' ∧ Ext B ω1 H1 ω' H' ∧ H' D = some (.dK acc) ∧ RpD B.K ω'.F H' acc acs ∧
        dcGo h t fk fv (wipeS sl vs) (ds.drop i) st' acs = some (es, st2)
      have start : Wv 0 ds.length (upd H1 D (.dK [])) := by
        obtain ⟨s2, e2⟩ := s1.under (o := .dK []) d3 d1 d2.1 d2.2
        exact ⟨by omega, ω1, st1, [], [], (s2.wipe vs).guard d3 d1 (by rw [upd_same]; intro z; cases z), e2, upd_same, .nil, by rw [List.drop_zero]; exact hl⟩
      refine ⟨Wv, ⟨ds.length, start⟩, ?_⟩
      rintro i m H' ⟨em, ω', st', acc, acs, s', e', hH, ra, hgo⟩
      obtain ⟨s0, f0, a0, n0⟩ := s'.unguard
      by_cases hi : i < ds.length
      · refine .inr ⟨wk.go _ _ i e'.fr hi, fun H2 => ∃ m', m' < m ∧ Wv (i + 1) m' H2, fun H2 hN => hN, fun x H2 hy => ?_⟩
        have hd : ds[i]? = some ds[i] := List.getElem?_eq_getElem hi
        rw [List.drop_eq_getElem_cons hi] at hgo
        unfold dcGo at hgo
        obtain ⟨F2, px, rx⟩ := wk.yld _ _ i x H2 _ e'.fr s'.dom hd hy
        cases hh : h ds[i] (wipeS sl vs) with
        | none => rw [hh] at hgo; cases hgo
        | some sl2 =>
          rw [hh] at hgo
          dsimp only at hgo
          have s2 := s'.pure px
          have e2 : Ext (B.guard D) ω' H' ⟨F2, ω'.ad⟩ H2 := s'.px px
          refine ⟨D, wipeS sl vs, sl2, st', ds[i], ⟨F2, ω'.ad⟩, hh, s2, by rw [hB]; exact rx, fun σ2 tsr s3 => ⟨?_, ?_⟩⟩
          · rw [tsr vs hts]
            exact wipe_twice σ vs
          · refine ⟨D, sl2, st', ⟨F2, ω'.ad⟩, s3, ?_⟩
            cases ht : t sl2 st' with
            | fail => rw [ht] at hgo; cases hgo
            | exc y st3 => rw [ht] at hgo; cases hgo
            | ok k st3 =>
              rw [ht] at hgo
              intro ω3 H3 e3 s4
              have e23 := e2.trans e3
              obtain ⟨e23', hD3⟩ := e23.unguard
              cases k with
              | false =>
                rw [if_neg Bool.false_ne_true]
                exact ⟨m - 1, by omega, by omega, ω3, st3, acc, acs, SR.slots s' e23 s4, e'.trans e23', hD3.trans hH, ra.up e23.fr, hgo⟩
              | true =>
                rw [if_pos rfl]
                refine ⟨D, sl2, st3, ω3, s4, ?_⟩
                dsimp only at hgo
                cases hkk : fk sl2 st3 with
                | fail => rw [hkk] at hgo; cases hgo
                | exc y st4 => rw [hkk] at hgo; cases hgo
                | ok evk st4 =>
                  rw [hkk] at hgo
                  cases evk with
                  | bor _ => cases hgo
                  | new _ => cases hgo
                  | lost => cases hgo
                  | val dk =>
                    cases dk with
                    | str kk =>
                      dsimp only at hgo
                      intro yk ωk Hk ek sk hyk
                      have hyk' : Rp B.K ωk.F Hk yk (.str kk) := hyk
                      cases hyk'
                      refine ⟨D, sl2, st4, ωk, sk, ?_⟩
                      cases hv : fv sl2 st4 with
                      | fail => rw [hv] at hgo; cases hgo
                      | exc y st5 => rw [hv] at hgo; cases hgo
                      | ok ev st5 =>
                        rw [hv] at hgo
                        dsimp only at hgo
                        cases hx : ev.fix st5 with
                        | none => rw [hx] at hgo; cases hgo
                        | some pe =>
                          obtain ⟨e1, st6⟩ := pe
                          rw [hx] at hgo
                          dsimp only at hgo
                          by_cases hz : acs.length < Lim
                          · rw [if_pos hz] at hgo
                            intro y ω4 H4 e4 s5 hy4
                            obtain ⟨ω5, e5, s6, r6⟩ := VR.fix s5 hy4 hx
                            have e25 := ((e23.trans ek).trans e4).trans e5
                            obtain ⟨e25', hD5⟩ := e25.unguard
                            have ra5 := ra.up e25.fr
                            obtain ⟨s7, f7, a7, n7⟩ := s6.unguard
                            have wp : SR B ω5 H4 (L2.wipe σ vs) (wipeS sl vs) st6 := SR.slots s0 e25' s7
                            have acl : acc.length < sizeLine := by
                              have h1 := ra.leng
                              have := lim_line
                              omega
                            refine ⟨acc, .inr kk, rfl, hD5.trans hH, acl, m - 1, by omega, by omega, ω5, st6, putK acc (.inr kk) y, putD (.inr kk) e1 acs, ?_, ?_, upd_same, ?_, hgo⟩
                            · exact (wp.under f7 a7 d2.1 d2.2).1.guard f7 a7 (by rw [upd_same]; intro z; cases z)
                            · exact (e'.trans e25').trans (wp.under f7 a7 d2.1 d2.2).2
                            · exact (ra5.put r6).up (wp.under (o := .dK (putK acc (.inr kk) y)) f7 a7 d2.1 d2.2).2.fr
                          · rw [if_neg hz] at hgo; cases hgo
                    | _ => cases hgo
      · have hi' : i = ds.length := by omega
        subst hi'
        refine .inl ⟨wk.stop _ _ e'.fr, ?_⟩
        rw [List.drop_length] at hgo
        unfold dcGo at hgo
        cases hgo
        exact q _ ω' H' (x1.trans e') (SR.slots s (x1.trans e') s0) ⟨D, rfl, a0, ⟨d2.1, d2.2⟩, f0, acc, hH, ra⟩
theorem se_dc {kx vx tg iter : Expr} {ifs : List Expr} {scope : Scope} (own : List (Str × Nat)) {pos : Pos} {fi : FI} {h : FG} {t : FT} {fk fv : FE} {ts : List Nat} (hc : X.calm = true) (hN : X.N.Nodup) (hi : SI X ct W tg iter fi) (ok : BlkOk X.N X.env.scope scope own) (hts : ∀ i ∈ ts, i ∈ own.map (·.2))
    (hg : ∀ (s : Shared) (H : Hp) (C : Addr) (cl : List (Str × Addr)) (fp : List Addr), SG (X.blk s H scope (compEnvC scope cl C X.env) fp) ts tg h) (ht : ∀ (s : Shared) (H : Hp) (C : Addr) (cl : List (Str × Addr)) (fp : List Addr), SPT (X.blk s H scope (compEnvC scope cl C X.env) fp) ct W0 ifs t)
    (hk : ∀ (s : Shared) (H : Hp) (C : Addr) (cl : List (Str × Addr)) (fp : List Addr), SE (X.blk s H scope (compEnvC scope cl C X.env) fp) ct W0 kx fk)
    (he : ∀ (s : Shared) (H : Hp) (C : Addr) (cl : List (Str × Addr)) (fp : List Addr), SE (X.blk s H scope (compEnvC scope cl C X.env) fp) ct W0 vx fv) (hs : ∀ x, foldedSetIterable iter X.env x = pure x := by intro _; rfl) : SE X ct W (.DictComp kx vx [⟨tg, iter, ifs, 0⟩] scope pos) (eDc (own.map (·.2)) fi h t fk fv) := by
  intro B hB hb sl st
  refine pe_imp (pe_dc hc hN (hi B hB hb sl st) ok (fun s H C cl fp => (hg s H C cl fp).allG hB) (fun s H C cl fp => (ht s H C cl fp).allG hB hb) (fun s H C cl fp => (hk s H C cl fp).allG hB hb) (fun s H C cl fp => (he s H C cl fp).allG hB hb) hs) fun σ H Q q => ?_
  exact dc_read hB hts (fun _ _ _ z => z) q
end
end Px
/-! PxZ26: instances of own classes: C(..), o.f, o.f = v -/
namespace Px
open PySem PySem.Spec PyProof.Rows L2
def putFd (f : Str) (v : PyData) : List (Str × PyData) → List (Str × PyData)
  | [] => [(f, v)]
  | (g, w) :: r => if f = g then (g, v) :: r else (g, w) :: putFd f v r
theorem FlR.look {K : PySem.W.Frag} {F : Addr → Prop} {H : Hp} {f : Str} {d : PyData} : ∀ {vs : List (Str × V)} {fs : List (Str × PyData)}, FlR K F H vs fs → fs.lookup f = some d → ∃ v, vs.lookup f = some v ∧ Rp K F H v d
  | _, _, .nil, e => by cases e
  | (g, v) :: vs, (g', z) :: fs, .cons a r, e => by
    obtain ⟨rfl, a2⟩ : g = g' ∧ Rp K F H v z := a
    rw [List.lookup_cons] at e ⊢
    cases hb : f == g with
    | true => rw [hb] at e; cases e; exact ⟨v, rfl, a2⟩
    | false => rw [hb] at e; exact FlR.look r e
theorem FlR.len {K : PySem.W.Frag} {F : Addr → Prop} {H : Hp} {vs : List (Str × V)} {fs : List (Str × PyData)} (r : FlR K F H vs fs) : vs.length = fs.length := paired_len r
theorem FlR.put {K : PySem.W.Frag} {F : Addr → Prop} {H : Hp} {f : Str} {v : V} {d : PyData} (rv : Rp K F H v d) : ∀ {vs : List (Str × V)} {fs : List (Str × PyData)}, FlR K F H vs fs → FlR K F H (putF f v vs) (putFd f d fs)
  | _, _, .nil => .cons ⟨rfl, rv⟩ .nil
  | (g, u) :: vs, (g', z) :: fs, .cons a r => by
    obtain ⟨rfl, a2⟩ : g = g' ∧ Rp K F H u z := a
    unfold putF putFd
    by_cases hb : f = g
    · subst hb
      simp only [if_pos]
      exact .cons ⟨rfl, rv⟩ r
    · have hb' : ¬ g = f := fun z => hb z.symm
      simp only [hb, hb', if_false]
      exact .cons ⟨rfl, a2⟩ (FlR.put rv r)
/-- what of the text a class must have -/
structure InC (K : PySem.W.Frag) (t : Str) (C : Addr) : Prop where
  at_ : PySem.W.nsIn K mainGlobals t = some (some (.ref C))
  cls : Cls K C
section
variable {X : Cx} {ct : Gx} {W : WX}
end
end Px
/-! PxZ27: xs += a new list -/
namespace Px
open PySem PySem.Spec PyProof.Rows L2
section
variable {X : Cx} {ct : Gx} {W : WX}
end
end Px
/-! PxZ28: *xs among the parts of a display -/
namespace Px
open PySem PySem.Spec PyProof.Rows L2
section
variable {X : Cx} {ct : Gx} {W : WX}
end
end Px
/-! PxZ29: len(set(xs)), xs a list of texts -/
namespace Px
open PySem PySem.Spec PyProof.Rows L2
section
variable {P : Program} {w : World} {A : Around} {E : Value → Shared → Prop} {sh : Shared}
end
section
variable {X : Cx} {ct : Gx} {W : WX}
end
end Px
/-! PxZ30: f'..' of texts; methods of texts that tell; a new thing handed on -/
namespace Px
open PySem PySem.Spec PyProof.Rows L2
section
variable {X : Cx} {ct : Gx} {W : WX}
/-! ### a new thing comes into the store -/
/-! ### f'..' -/
def jNil (acc : Str) : FE := fun _ st => .ok (.val (.str acc)) st
def jCons (f : FE) (g : Str → FE) (acc : Str) : FE := fun sl st => match f sl st with
  | .fail => .fail
  | .exc x st1 => .exc x st1
  | .ok (.val (.str y)) st1 => if (acc ++ y).length ≤ Lim then g (acc ++ y) sl st1 else .fail
  | .ok _ _ => .fail
def SJ (X : Cx) (ct : Gx) (W : WX) (es : List Expr) (g : Str → FE) : Prop := ∀ (B : Bs), B.K = X.K → B.ct = ct → ∀ sl st acc, PyData.strOk acc = true →
  ∃ ts, PJ X es ts ∧ ∀ σ H (Q : Str → Hp → Prop), (∃ ω, SR B ω H σ sl st ∧ OutE B W σ ω H sl (g acc sl st) fun v H1 => ∀ out, v = .str out → Q out H1) → tJs ts acc σ H Q
theorem sj_nil : SJ X ct W [] jNil := fun B hB hc sl st acc ok => ⟨[], .nil, fun σ H Q ⟨ω, s, q⟩ => by
  exact q (.str acc) ω H .refl s (.str acc ok) acc rfl⟩
theorem sj_cons {e : Expr} {es : List Expr} {f : FE} {g : Str → FE} (h1 : SE X ct W e f) (h2 : SJ X ct W es g) : SJ X ct W (e :: es) (jCons f g) := by
  intro B hB hc sl st acc ok
  have any : ∀ {st1 : Sto}, (∀ σ H (Q : Str → Hp → Prop), (∃ ω, SR B ω H σ sl st ∧ OutE B W σ ω H sl (jCons f g acc sl st) fun v H1 => ∀ out, v = .str out → Q out H1) → ∃ ω, SR B ω H σ sl st ∧ OutE B W σ ω H sl (f sl st) fun _ _ => False) →
      ∃ ts, PJ X (e :: es) ts ∧ ∀ σ H (Q : Str → Hp → Prop), (∃ ω, SR B ω H σ sl st ∧ OutE B W σ ω H sl (jCons f g acc sl st) fun v H1 => ∀ out, v = .str out → Q out H1) → tJs ts acc σ H Q := by
    intro st1 z
    obtain ⟨ts, p, _⟩ := h2 B hB hc sl st acc ok
    refine ⟨_ :: ts, .cons (h1 B hB hc sl st) p, fun σ H Q q => ?_⟩
    obtain ⟨ω, s, q1⟩ := z σ H Q q
    refine ⟨ω, s, ?_⟩
    cases hf : f sl st with
    | fail => rw [hf] at q1; exact q1
    | exc x st2 => rw [hf] at q1; exact q1
    | ok ev st2 => rw [hf] at q1; exact fun v ω' H' x s' hv => (q1 v ω' H' x s' hv).elim
  cases hf : f sl st with
  | fail => exact any (st1 := st) fun σ H Q ⟨ω, s, q⟩ => by unfold jCons at q; rw [hf] at q; exact q.elim
  | exc x st1 => exact any (st1 := st) fun σ H Q ⟨ω, s, q⟩ => ⟨ω, s, by unfold jCons at q; rw [hf] at q ⊢; exact q⟩
  | ok ev st1 =>
    have bad : (∀ y, ev ≠ .val (.str y)) → jCons f g acc sl st = .fail := fun z => by
      unfold jCons
      rw [hf]
      cases ev with
      | val d =>
        cases d with
        | str y => exact absurd rfl (z y)
        | _ => rfl
      | _ => rfl
    by_cases hy : ∃ y, ev = .val (.str y)
    · obtain ⟨y, rfl⟩ := hy
      by_cases hz : (acc ++ y).length ≤ Lim
      · by_cases hk : PyData.strOk y = true
        · obtain ⟨ts, p, run⟩ := h2 B hB hc sl st1 (acc ++ y) (strOk_app ok hk)
          refine ⟨_ :: ts, .cons (h1 B hB hc sl st) p, fun σ H Q ⟨ω, s, q⟩ => ⟨ω, s, ?_⟩⟩
          unfold jCons at q
          rw [hf] at q ⊢
          dsimp only at q
          rw [if_pos hz] at q
          intro v ω1 H1 x1 s1 hv
          have hv' : Rp B.K ω1.F H1 v (.str y) := hv
          cases hv'
          exact ⟨y, rfl, Nat.le_trans hz lim_line, run σ H1 Q ⟨ω1, s1, OutE.up q x1⟩⟩
        · obtain ⟨ts, p, run⟩ := h2 B hB hc sl st acc ok
          refine ⟨_ :: ts, .cons (h1 B hB hc sl st) p, fun σ H Q ⟨ω, s, q⟩ => ⟨ω, s, ?_⟩⟩
          rw [hf]
          intro v ω1 H1 x1 s1 hv
          have hv' : Rp B.K ω1.F H1 v (.str y) := hv
          cases hv' with
          | str _ k => exact absurd k hk
      · exact any (st1 := st) fun σ H Q ⟨ω, s, q⟩ => by unfold jCons at q; rw [hf] at q; dsimp only at q; rw [if_neg hz] at q; exact q.elim
    · exact any (st1 := st) fun σ H Q ⟨ω, s, q⟩ => by rw [bad fun y e => hy ⟨y, e⟩] at q; exact q.elim
theorem se_joined {v1 v2 : Expr} {rest : List Expr} {g : Str → FE} {pos : Pos} (h : SJ X ct W (v1 :: v2 :: rest) g) : SE X ct W (.JoinedStr (v1 :: v2 :: rest) pos) (g Str.empty) := by
  intro B hB hc sl st
  obtain ⟨ts, p, run⟩ := h B hB hc sl st Str.empty (by decide +kernel)
  refine pe_imp (pe_joined p) fun σ H Q ⟨ω, s, q⟩ => run σ H _ ⟨ω, s, ?_⟩
  cases hg : g Str.empty sl st with
  | fail => rw [hg] at q; exact q
  | exc x st1 => rw [hg] at q; exact q
  | ok ev st1 =>
    rw [hg] at q
    intro v ω1 H1 x1 s1 hv out e
    rw [← e]
    exact q v ω1 H1 x1 s1 hv
/-- {x}, x a text -/
def fmtD : PyData → Option OR
  | .str y => if y.length ≤ Lim then some (.val (.str y)) else none
  | _ => none
theorem se_fmt {e : Expr} {f : FE} {pos : Pos} (h : SE X ct W e f) : SE X ct W (.FormattedValue e (-1) none pos) (u1 fmtD f) := by
  refine se_u1 (a := e) (r := fun x H1 Q => (∃ y : Str, x = .str y ∧ y.length ≤ sizeLine ∧ Q (.str y) H1) ∨ ∃ i : Int, x = .int i ∧ i.natAbs.log2 < 1920 ∧ Q (.str (toString i)) H1) (fun ta ha => pe_fmt ha) h fun F H x d o Q dm b eo gv => ?_
  unfold fmtD at eo
  split at eo
  · split at eo
    · rename_i y hy
      cases eo
      have k := b.ok_
      cases b.str_
      exact .inl ⟨y, rfl, Nat.le_trans hy lim_line, gv.here dm (.str y k)⟩
    · cases eo
  · cases eo
/-! ### x.isascii() and its like -/
def tellD (g : Str → Bool) : PyData → Option OR
  | .str y => some (.val (.bool (g y)))
  | _ => none
theorem se_tell {e : Expr} {f : FE} {g : Str → Bool} {id : String} {name : Str} {apos pos : Pos} (slot : Slot "str" name id) (ty : typeOf (.builtin id) = pure (.type "method_descriptor")) (rule : MtR X id (fun x xs H Q => ∃ a, x = .str a ∧ xs = [] ∧ True ∧ Q (.bl (g a)) H)) (h : SE X ct W e f)
    (hbase : attributeBase e name X.env (eval e X.env) = eval e X.env := by rfl) (hline : (apos.endLine == pos.line) = true := by rfl) : SE X ct W (.Call (.Attribute e name apos) [] [] pos) (u1 (tellD g) f) := by
  refine se_u1 (a := e) (r := fun x H1 Q => (∃ a, x = .str a) ∧ ∃ a, x = .str a ∧ ([] : List V) = [] ∧ True ∧ Q (.bl (g a)) H1) (fun ta ha => pe_m0 slot ty rule ha hbase hline) h fun F H x d o Q dm b eo gv => ?_
  unfold tellD at eo
  split at eo
  · rename_i y
    cases eo
    cases b.str_
    exact ⟨⟨y, rfl⟩, y, rfl, rfl, True.intro, gv.here dm (.bl _)⟩
  · cases eo
theorem se_isascii {e : Expr} {f : FE} {apos pos : Pos} (h : SE X ct W e f) (hbase : attributeBase e "isascii" X.env (eval e X.env) = eval e X.env := by rfl) (hline : (apos.endLine == pos.line) = true := by rfl) : SE X ct W (.Call (.Attribute e "isascii" apos) [] [] pos) (u1 (tellD Txt.isascii) f) :=
  se_tell PySem.F.slot_str_isascii PySem.F.type_str_isascii mt_isascii h hbase hline
theorem se_isalpha {e : Expr} {f : FE} {apos pos : Pos} (h : SE X ct W e f) (hbase : attributeBase e "isalpha" X.env (eval e X.env) = eval e X.env := by rfl) (hline : (apos.endLine == pos.line) = true := by rfl) : SE X ct W (.Call (.Attribute e "isalpha" apos) [] [] pos) (u1 (tellD Txt.isalpha) f) :=
  se_tell PySem.F.slot_str_isalpha PySem.F.type_str_isalpha mt_isalpha h hbase hline
theorem se_islower {e : Expr} {f : FE} {apos pos : Pos} (h : SE X ct W e f) (hbase : attributeBase e "islower" X.env (eval e X.env) = eval e X.env := by rfl) (hline : (apos.endLine == pos.line) = true := by rfl) : SE X ct W (.Call (.Attribute e "islower" apos) [] [] pos) (u1 (tellD Txt.islower) f) :=
  se_tell PySem.F.slot_str_islower PySem.F.type_str_islower mt_islower h hbase hline
end
end Px
/-! PxZ31: len, truth and in of dicts; defs with defaults; __init__ -/
namespace Px
open PySem PySem.Spec PyProof.Rows L2
section
variable {X : Cx} {ct : Gx} {W : WX}
def lenKD : List PyData → Option OR
  | [.dict kvs] => some (.val (.int kvs.length))
  | _ => none
theorem call_lenKA : CallD X (.builtin "len") lenKD := ⟨fun xs H Q => ∃ a kvs, xs = [V.ref a] ∧ Rd H a (.dK kvs) ∧ Q (.int kvs.length) H, fun pins s σ H xs us Q I r h => by
    obtain ⟨a, kvs, rfl, ha, q⟩ := h
    obtain ⟨u, rfl, ru⟩ := vals1 r
    cases ru
    exact d_len I ha fun t s' I' => ⟨.int kvs.length, H, I', ⟨t, rfl⟩, q⟩, fun F H xs ds o Q dm b e gv => by
    unfold lenKD at e
    split at e
    · rename_i kvs
      cases e
      replace b := bps1 b; obtain ⟨v, rfl, b⟩ := b
      obtain ⟨a, vs, rfl, hr, rd⟩ := b.dic_
      refine ⟨a, vs, rfl, hr, ?_⟩
      have := gv.here dm (.int (kvs.length : Nat))
      rw [rd.leng]
      exact this
    · cases e⟩
def inK : PyData → PyData → Option Bool
  | .str k, .dict kvs => some (valD (.inr k) kvs).isSome
  | _, _ => none
def notInK : PyData → PyData → Option Bool := fun a b => (inK a b).map (!·)
theorem dget_of {F : Addr → Prop} {H : Hp} {x y : V} {d1 d2 : PyData} {b : Bool} (b1 : Bp X.K F H x d1) (b2 : Bp X.K F H y d2) (e : inK d1 d2 = some b) : ∃ a o, y = .ref a ∧ DGet H a x o ∧ o.isSome = b := by
  unfold inK at e
  split at e
  · rename_i k kvs
    cases e
    cases b1.str_
    obtain ⟨a, vs, rfl, hr, rd⟩ := b2.dic_
    refine ⟨a, valV vs (.inr k), rfl, .inl ⟨vs, .inr k, hr, rfl, rfl⟩, ?_⟩
    rcases rd.val (k := .inr k) with ⟨n1, n2⟩ | ⟨w, dw, n1, n2, n3⟩
    · rw [n1, n2]; rfl
    · rw [n1, n2]; rfl
  · cases e
theorem rel_notInK (hu : X.A.units + 1 < cLine) : RelD X .NotIn notInK := ⟨fun x y H Q => ∃ a o, y = .ref a ∧ DGet H a x o ∧ Q (.bl (!o.isSome)) H, fun pins s σ H x y u v Q I r1 r2 h => by
    obtain ⟨a, o, rfl, g, q⟩ := h
    cases r2
    exact d_notIn hu I g r1 fun s3 I3 => ⟨.bl (!o.isSome), H, I3, rfl, q⟩, fun F H x y d1 d2 b Q b1 b2 e q => by
    unfold notInK at e
    cases h : inK d1 d2 with
    | none => rw [h] at e; cases e
    | some k =>
      rw [h] at e
      cases e
      obtain ⟨a, o, rfl, g, rfl⟩ := dget_of b1 b2 h
      exact ⟨a, o, rfl, g, q⟩⟩
end
/-! ### defs with defaults -/
structure FunV (K : PySem.W.Frag) (x qual : Str) (st : Stmt) (f : Addr) (fd : FuncData) : Prop where
  ex : ∃ (oc : Value) (od : Option Addr) (dV kV doc pm : Value) (an : Option Addr) (cdv ct : Value) (osl : Array (Option Value)),
    fd = PySem.W.fnOf x qual (defArgs st) (defBody st) (defScope st) dV kV doc pm an cdv ct ∧ K.lookup f = some ⟨oc, od, .func fd, osl⟩ ∧ PySem.W.codeIn K cdv qual = true
  kp : PySem.W.keepIn K (.ref f) = true
section
variable {K : PySem.W.Frag} {ct : Gx}
theorem def_okV {P : Program} {w : World} {mg : Str → Option Value} {base : Heap} {x qual : Str} {st : Stmt} {f : Addr} {fd : FuncData} {N ps : List Str} {k : Nat} {g : FS} (F : FunV K x qual st f fd) (S : FnScope N ps (defScope st))
    (hbody : ∀ (cdv : Value) (A : Around) (outer : List Env) (s : Shared) (H : Hp) (E : XK), Room k (A.deeper (envOfC qual (defScope st) s.heap.objs.size f cdv)) → A.guards = some [] →
      SSs (cxOf (L2.CX P w) P w K mg base N qual (defScope st) f cdv A outer s H E) ct (fun cls d _ H => E cls d H) (defBody st) g) :
    FnG P w K mg base (L2.CX P w) (k + 1) f fd ps (spOf K ct ps.length (runD N.length g)) := by
  obtain ⟨oc, od, dV, kV, doc, pm, an, cdv, ctv, osl, rfl, lk, hcd⟩ := F.ex
  refine ⟨fun vs H Q E ⟨_, _, _, h, _⟩ => h, ?_⟩
  intro A outer s H cargs us vs Q E room quiet e0 binds rel ⟨F0, args, io, hl, ra, dm, nd, q⟩
  have kin : K.In s.heap := e0.mod.kin.keeps fun b o e => (e0.bs b o e).1
  refine codeAny_call_function room.depth (kin _ _ lk) rfl S.co S.gen rfl (PySem.W.codeRec_of kin hcd) (binds _ _ _ _ ?_)
  have kinds : ∀ y ∈ ps.zip us, (defScope st).names.lookup y.1 = some .local ∨ ((defScope st).names.lookup y.1 = some .cell ∧ ((cellsFrom (s.heap.objs.size + 1) (defScope st).names []).lookup y.1).isSome = true) := by
    intro y hy
    rcases S.par y.1 (List.of_mem_zip hy).1 with loc | cel
    · exact Or.inl loc
    · exact Or.inr ⟨cel, PySem.W.cellsFrom_some _ _ _ (Or.inl cel)⟩
  refine wpAny_newFunctionEnv_cells S.kind kinds fun env he s1 x => ?_
  subst he
  have nolim : s.heap.NoLimit := e0.mod.nolimit.keeps fun b o e => (e0.bs b o e).1
  refine ⟨nolim.keeps x.toInCall.keep, codeAny_func ?_⟩
  have I := inv_start (CX := L2.CX P w) (E := E) S room.hd e0 hl rel x
  have hpl : ps.length ≤ N.length := by have := congrArg List.length S.pre; rw [List.length_take] at this; omega
  have body := (hbody cdv A outer s H E (room.deeper _) quiet ⟨K, H, F0, io, ct, []⟩ rfl rfl (slots0 args 0 ++ List.replicate (N.length - args.length) .non) (cells0 args)).run [] s1 (L2.start N vs) H { nx := fun _ H' => Q .non H', rt := Q } I
    ⟨⟨F0, io⟩, SR.start ra dm nd (by rw [← ra.length, hl]; exact hpl), ?_⟩
  · refine wpAny_mono body (fun fl s' hs => ?_) fun e s' hs => hs
    cases fl with
    | brk => obtain ⟨_, _, _, no⟩ := hs; exact no.elim
    | cont => obtain ⟨_, _, _, no⟩ := hs; exact no.elim
    | next =>
      obtain ⟨σ', H', J, done⟩ := hs
      exact ⟨V.non, H', J.os, J.bare, J.base, J.hok, rfl, done⟩
    | ret u =>
      obtain ⟨v, σ', H', J, rv, done⟩ := hs
      exact ⟨v, H', J.os, J.bare, J.base, J.hok, rv, done⟩
  · unfold runD endD at q
    cases hg : g (slots0 args 0 ++ List.replicate (N.length - args.length) .non) (cells0 args) with
    | fail => rw [hg] at q; exact q
    | bk _ _ => rw [hg] at q; exact q.elim
    | ct _ _ => rw [hg] at q; exact q.elim
    | nx sl st => rw [hg] at q; exact fun σ' ω' H' e s' => q .non ω'.F H' (SR.post dm ra.nf s') .non
    | rt d st => rw [hg] at q; exact fun v σ' ω' H' sl e s' r => q v ω'.F H' (SR.post dm ra.nf s') r
    | rn o st =>
      rw [hg] at q
      exact fun v σ' ω' H' sl e s' ⟨p, ev, _, ⟨h0, _⟩, nf, mo⟩ => by
        rw [ev]
        exact q p ω'.F H' (SR.post dm ra.nf s') h0 nf mo
    | exc x sl st =>
      rw [hg] at q
      exact fun cls d σ' ω' H' e s' ⟨C, h1, h2, h3, h4⟩ => q cls d ω'.F H' C (SR.post dm ra.nf s') h1 h2 h3 h4
end
/-- the defaults of a def, looked up -/
theorem looks_dfl {α : Type} {K : PySem.W.Frag} {M : Model} {h : Heap} {T : Addr} {o : Obj} {its : Array Value} {n : Nat} {k : Option (Array Value) → Sem α} {t : Sem α} {r : α} (X : K.In h) (lT : K.lookup T = some o) (oT : o.data = .seq its n) (e1 : t = seqItems? (.ref T) >>= k) (e2 : k (some its) = pure r) :
    PySem.W.Looks M h t r := by
  rw [e1]
  exact looks_items X lT oT (.of_pure e2)
end Px
/-! PxZ32: name = [.. for .. for ..], the name a local -/
namespace Px
open PySem PySem.Spec PyProof.Rows L2
section
variable {X : Cx} {ct : Gx} {W : WX}
end
end Px
/-! PxZ33: a lambda without parameters handed to a def that calls it under try -/
namespace Px
open PySem PySem.Spec PyProof.Rows L2 L2H

/-! ### the lambda is made -/
/-- what becomes of the heap: the code object is found, or it is new and entered -/
def Made (H : Hp) (P : Addr) (ps : Array Value) (at_ : Pos) (q : Str) (H1 : Hp) (co : Addr) : Prop :=
  (codeAmong at_ ps.toList = some (.ref co) ∧ H1 = H) ∨
  (codeAmong at_ ps.toList = none ∧ H co = none ∧ H1 = upd (upd H P (.tbl (ps ++ #[rawInt at_.line, rawInt at_.col, .ref co]))) co (LamX.CodeO co q))
section
variable {X : Cx} {pins : List (Addr × Obj)} {σ : L2.St} {H : Hp} {s : Shared}
end
/-! ### the store behind it -/
theorem SR.notio {B : Bs} {ω : Wd} {H : Hp} {σ : L2.St} {sl : Sls} {st : Sto} (s : SR B ω H σ sl st) {n : Nat} {P : Addr} {kv : Option (List (PyData × PyData))} (hc : st[n]? = some (.kd kv)) (hp : ω.ad[n]? = some P) : P ∉ B.io := fun hi => by
  obtain ⟨m, hm, e⟩ := List.getElem_of_mem hi
  obtain ⟨t, ht⟩ := s.iop
  have hm2 : ω.ad[m]? = some P := by rw [← ht, List.getElem?_append_left hm, List.getElem?_eq_getElem hm, e]
  have hl : m < ω.ad.length := (List.getElem?_eq_some_iff.mp hm2).1
  have e2 : m = n := (List.getElem?_inj hl s.nd).mp (hm2.trans hp.symm)
  subst e2
  obtain ⟨o, e3⟩ := s.ioc m _ hm hc
  cases e3
theorem SR.made {B : Bs} {ω : Wd} {H H1 : Hp} {σ : L2.St} {sl : Sls} {st : Sto} (s : SR B ω H σ sl st) {n : Nat} {P co : Addr} {ps : Array Value} {at_ : Pos} {q : Str}
    (hc : st[n]? = some (.kd none)) (hp : ω.ad[n]? = some P) (gt : B.ct.tb = some (P, q)) (hP : H P = some (.tbl ps)) (tri : TriplesOk ps.toList) (nF : ¬ ω.F P)
    (all : ∀ pos cv, codeAmong pos ps.toList = some cv → ∃ c, cv = .ref c ∧ ω.F c ∧ H c = some (LamX.CodeO c q)) (m : Made H P ps at_ q H1 co) :
    ∃ ω1, SR B ω1 H1 σ sl st ∧ Ext B ω H ω1 H1 ∧ H1 co = some (LamX.CodeO co q) := by
  rcases m with ⟨found, rfl⟩ | ⟨found, new, rfl⟩
  · obtain ⟨c, e, _, h⟩ := all _ _ found
    cases e
    exact ⟨ω, s, .refl, h⟩
  · have nPc : P ≠ co := fun e => by rw [e, new] at hP; cases hP
    have atP : ∀ {o : HO} {u : HO}, upd (upd H P o) co u P = some o := fun {o u} => by rw [upd_ne nPc, upd_same]
    have oth : ∀ {a : Addr} {o u : HO}, a ≠ P → a ≠ co → upd (upd H P o) co u a = H a := fun {a o u} h1 h2 => by rw [upd_ne h2, upd_ne h1]
    have Fco : ∀ a, ω.F a → a ≠ co := fun a h e => s.dom a h (by rw [e]; exact new)
    have FP : ∀ a, ω.F a → a ≠ P := fun a h e => nF (e ▸ h)
    have frs' := s.fresh new
    have fr : Fr ω.F H (fun a => ω.F a ∨ a = co) (upd (upd H P (.tbl (ps ++ #[rawInt at_.line, rawInt at_.col, .ref co]))) co (LamX.CodeO co q)) := fun a h => ⟨.inl h, oth (FP a h) (Fco a h)⟩
    have nio := s.notio hc hp
    have h0P : B.H0 P = none := (s.adn P (List.mem_of_getElem? hp)).resolve_left nio
    refine ⟨⟨fun a => ω.F a ∨ a = co, ω.ad⟩, ⟨s.len, fun a h => ?_, fun a o e hi => ?_, fun a h => ?_, fun a h => .inl (s.oldF a h), s.adl, s.nd, s.iop, s.adn, s.ioc, s.ioc2, fun p hp' => upd_some (upd_some (s.there p hp')), fun p hp' z => ?_, s.prA, fun p hp' => upd_some (upd_some (s.prH p hp')), fun i t h => (s.slot i t h).up fr (List.prefix_refl _), fun j c p h1 h2 => ?_⟩, ⟨fr, List.prefix_refl _, fun p hp' => ?_⟩, upd_same⟩
    · rcases h with h | h
      · exact upd_some (upd_some (s.dom a h))
      · subst h; rw [upd_same]; intro z; cases z
    · have k := s.keep a o e hi
      rw [oth (fun z => by rw [z, h0P] at e; cases e) (fun z => by rw [z, new] at k; cases k)]
      exact k
    · rcases h with h | h
      · exact s.newF a h
      · subst h; exact .inr frs'.2.1.1
    · rcases z with z | z
      · exact s.prF p hp' z
      · exact frs'.2.1.2 (z ▸ hp')
    · by_cases hj : j = n
      · subst hj
        rw [hc] at h1
        cases h1
        rw [hp] at h2
        cases h2
        refine ⟨fun z => z.elim nF (fun e => nPc e), q, _, gt, atP, ?_, fun pos cv hcv => ?_⟩
        · have eL : (ps ++ #[rawInt at_.line, rawInt at_.col, .ref co]).toList = ps.toList ++ [rawInt at_.line, rawInt at_.col, .ref co] := by simp
          rw [eL]
          exact PySem.TriplesOk_snoc _ _ _ _ tri
        · have eL : (ps ++ #[rawInt at_.line, rawInt at_.col, .ref co]).toList = ps.toList ++ [rawInt at_.line, rawInt at_.col, .ref co] := by simp
          rw [eL] at hcv
          rcases LamX.among_app _ tri hcv with z | z
          · obtain ⟨c, e1, e2, e3⟩ := all pos cv z
            exact ⟨c, e1, .inl e2, by rw [oth (FP c e2) (Fco c e2)]; exact e3⟩
          · exact ⟨co, z, .inr rfl, upd_same⟩
      · have pne : p ≠ P := fun e => hj ((List.getElem?_inj (List.getElem?_eq_some_iff.mp h2).1 s.nd).mp (h2.trans (by rw [e]; exact hp.symm)))
        have r := s.cell j c p h1 h2
        refine r.up fr fun h3 h4 => ⟨oth pne fun e => h3 (by rw [e]; exact new), fun z => z.elim h4 fun e => h3 (by rw [e]; exact new)⟩
    · exact oth (fun e => s.prA p hp' (by rw [e]; exact List.mem_of_getElem? hp)) fun e => s.prH p hp' (by rw [e]; exact new)
/-! ### what is read of the names alone -/
end Px
/-! PxZ34: f(lambda: ..), where f is `try: call() / except C as e: suite` and a text behind it -/
namespace Px
open PySem PySem.Spec PyProof.Rows L2 L2H
section
variable {X : Cx} {ct : Gx}
end
end Px
/-! PxZ35: f(lambda: ..) as an expression -/
namespace Px
open PySem PySem.Spec PyProof.Rows L2 L2H
section
variable {X : Cx} {pins : List (Addr × Obj)} {σ : L2.St} {H : Hp} {s : Shared}
end
section
variable {X : Cx} {ct : Gx} {W : WX}
end
end Px
/-! PxZ36: a def that makes lambdas, and the end of a law's row whose def does -/
namespace Px
open PySem PySem.Spec PyProof.Rows L2 L2H
/-! ### the end -/
section
variable {P : Program} {w : World} {K : PySem.W.Frag} {mg mb : Str → Option Value} {k : Nat} {fa a c T : Addr} {fd : FuncData} {D : FD} {s : Shared} {vs : List Value} {ns : List Int}
/-- but the script and the table nothing is tracked -/
structure Duo (P : Program) (w : World) (K : PySem.W.Frag) (s : Shared) (a T : Addr) (H : Hp) (ns : List Int) : Prop where
  ok : HOk P w H s.heap
  tb : H T = some (.tbl #[])
  one : ∀ b, H b ≠ none → b ≠ T → b = a ∧ (∃ o xs, H b = some (.frz o (.lst xs))) ∧ K.lookup b = none
  fz : FzL K (fun b => H b ≠ none ∧ b ≠ T) H a (ns.map V.int)
end
end Px
/-! PxZ37: is not True, is not False -/
namespace Px
open PySem PySem.Spec PyProof.Rows L2 L2H
section
variable {X : Cx}
end
end Px
/-! PxZ38: zip of a tuple and a list -/
namespace Px
open PySem PySem.Spec PyProof.Rows L2
/-- where the five cells lie -/
structure Five (z TI TO i1 i2 a b : Addr) : Prop where
  sep : ZipSep2 z TI TO i1 i2 [i1, a] [i2, b]
  ai : a ≠ i1
  bi : b ≠ i2
section
variable {X : Cx} {ct : Gx} {W : WX}
/-! ### whole numbers by their bits -/
/-! ### a, b = a list of two -/
/-! ### a, b, c = x, y, z -/
end
end Px
/-! PxZ39: a def that makes lambdas, called by another def -/
namespace Px
open PySem PySem.Spec PyProof.Rows L2 L2H
/-- behind a call that may have entered code objects into the table at P -/
structure PostL (K : PySem.W.Frag) (P : Addr) (F : Addr → Prop) (H : Hp) (io : List Addr) (F' : Addr → Prop) (H' : Hp) (os : List MO) : Prop where
  fr : Fr F H F' H'
  keep : ∀ a o, H a = some o → a ≠ P → a ∉ io → H' a = some o
  new : ∀ a, F' a → F a ∨ H a = none
  dom : ∀ a, F' a → H' a ≠ none
  out : IoR K F' H' io os
/-! ### the call -/
section
variable {B : Bs} {σ : L2.St} {sl : Sls}
/-- the table has grown -/
theorem SR.tab {ω : Wd} {H : Hp} {st : Sto} {n : Nat} {P : Addr} {u : HO} (s : SR B ω H σ sl st) (hc : st[n]? = some (.kd none)) (hp : ω.ad[n]? = some P) (tb : TbR B.ct ω.F (upd H P u) P) : SR B ω (upd H P u) σ sl st ∧ Ext B ω H ω (upd H P u) := by
  have nio := s.notio hc hp
  have h0P : B.H0 P = none := (s.adn P (List.mem_of_getElem? hp)).resolve_left nio
  have oth : ∀ {a : Addr}, a ≠ P → upd H P u a = H a := fun {a} h => upd_ne h
  have fr : Fr ω.F H ω.F (upd H P u) := fun a h => ⟨h, oth fun e => tb.1 (e ▸ h)⟩
  refine ⟨⟨s.len, fun a h => upd_some (s.dom a h), fun a o e hi => ?_, s.newF, s.oldF, s.adl, s.nd, s.iop, s.adn, s.ioc, s.ioc2, fun p h => upd_some (s.there p h), s.prF, s.prA, fun p h => upd_some (s.prH p h), fun i t h => (s.slot i t h).up fr (List.prefix_refl _), fun j c p h1 h2 => ?_⟩, ⟨fr, List.prefix_refl _, fun p h => ?_⟩⟩
  · rw [oth fun z => by rw [z, h0P] at e; cases e]
    exact s.keep a o e hi
  · by_cases hj : j = n
    · subst hj
      rw [hc] at h1
      cases h1
      rw [hp] at h2
      cases h2
      exact tb
    · have pne : p ≠ P := fun e => hj ((List.getElem?_inj (List.getElem?_eq_some_iff.mp h2).1 s.nd).mp (h2.trans (by rw [e]; exact hp.symm)))
      exact (s.cell j c p h1 h2).up fr fun _ h4 => ⟨oth pne, h4⟩
  · exact oth fun e => s.prA p h (by rw [e]; exact List.mem_of_getElem? hp)
end
section
variable {X : Cx} {ct : Gx} {W : WX}
end
/-! ### a def that calls such a def, and has its table from the start -/
end Px
/-! PxZ40: min of a list of tuples; len of the set of a tuple of numbers -/
namespace Px
open PySem PySem.Spec PyProof.Rows L2
section
variable {X : Cx} {ct : Gx} {W : WX}
end
end Px
/-! PxZ41: what is read, frozen by then -/
namespace Px
open PySem PySem.Spec PyProof.Rows L2
section
variable {X : Cx} {ct : Gx} {W : WX}
end
end Px
/-! PxPq: permutations(range(z), r): z from 1 to 5, r from 1 to 3 -/
namespace PmR
open PySem PySem.Spec PyProof.Rows
/-- choices of so many, with what is left and how many choices there were from there on -/
def picks : Nat → List Nat → List (List Nat × List Nat × List Nat)
  | 0, l => [([], l, [])]
  | r + 1, l => ((List.range l.length).map fun j => (picks r (l.eraseIdx j)).map fun x => (l.getD j 0 :: x.1, x.2.1, (l.length - j) :: x.2.2)).flatten
/-- the numbers of the record behind each item -/
def tabR (z r : Nat) : List (List Nat) := (picks r (List.range z)).map fun x => x.1 ++ x.2.1 ++ x.2.2
def zrs : List (Nat × Nat) := [(1, 1), (2, 1), (2, 2), (3, 1), (3, 2), (3, 3), (4, 1), (4, 2), (4, 3), (5, 1), (5, 2), (5, 3)]
def pairs : List (Nat × Nat × List Nat × List Nat) := (zrs.map fun x => ((tabR x.1 x.2).zip (tabR x.1 x.2).tail).map fun y => (x.1, x.2, y.1, y.2)).flatten
section
variable {prog : Program} {w : World} {A : Around} {E : Value → Shared → Prop} {s : Shared} {r : Addr} {t u v : Tok} {n : Nat}
end
end PmR
/-! PxPr: permutations(range(z), r): the walk -/
namespace PmR
open PySem PySem.Spec PyProof.Rows
section
variable {prog : Program} {w : World} {A : Around} {E : Value → Shared → Prop} {s : Shared} {n : Nat}
end
end PmR
/-! PxPs: list(permutations(range(z), r)), at the library's level -/
namespace PmR
open PySem PySem.Spec PyProof.Rows
section
variable {prog : Program} {w : World} {A : Around} {E : Value → Shared → Prop} {s : Shared} {r : Addr} {t u v : Tok} {n : Nat}
end
end PmR
/-! PxPt: list(permutations(range(z), r)) in Px: a frozen list of frozen tuples -/
namespace Px
open PySem PySem.Spec PyProof.Rows L2 PmR
section
variable {X : Cx} {a b : Expr} {ta tb : TE}
end
section
variable {X : Cx} {ct : Gx} {W : WX} {a b : Expr} {f g : FE}
end
end Px
/-! PxZ42: == of a text or a tuple of plain data and anything -/
namespace Px
open PySem PySem.Spec PyProof.Rows L2 PySem.SeqAt
section
variable {X : Cx} {ct : Gx} {W : WX}
theorem Box.cr {pins : List (Addr × Obj)} {σ : L2.St} {H : Hp} {s : Shared} {a : Addr} (I : L2.Inv X pins σ H s) (h : Box X.K H a) {A : Around} (hu : A.units < cLine) (b : Str) (t : Tok) : RcAt A s (.str b t) (.ref a) false := by
  rcases h with ⟨kvs, h⟩ | ⟨xs, h⟩ | ⟨xs, h⟩
  · obtain ⟨es, n, ho⟩ := dict_seen I h
    exact rc_str_dict es n b t ho hu
  · obtain ⟨its, _, p, _⟩ := I.list h
    exact RcAt.str_list b t p.isList hu
  · obtain ⟨its, _, p, _⟩ := I.tuple h
    exact RcAt.str_tuple b t (show s.heap.IsTuple a its.toArray from p) hu
end
end Px
namespace G03
open PySem PySem.Spec PyProof.Rows L2 Px
def topS (i : Nat) : Stmt := PySem.Challenge.pw_lorestead_k03_terms_known.main.body.getD i (.Pass ⟨0, 0, 0, 0⟩)
abbrev s_is_number_in : Stmt := topS 12
abbrev s_is_name : Stmt := topS 13
abbrev s_places_of_one : Stmt := topS 15
abbrev s_places_of_two : Stmt := topS 16
abbrev s_terms_by_text : Stmt := topS 23
abbrev s_l_pool : Stmt := topS 27
abbrev s_l_take : Stmt := topS 28
abbrev s_l_folded : Stmt := topS 35
abbrev s_is_notions : Stmt := topS 14
abbrev s_l_names : Stmt := topS 30
abbrev s_l_term : Stmt := topS 32
abbrev s_l_odd : Stmt := topS 36
abbrev s_require_notions : Stmt := topS 21
abbrev s_l_notions : Stmt := topS 31
abbrev s_l_about : Stmt := topS 43
abbrev s_l_parts : Stmt := topS 33
abbrev s_l_text : Stmt := topS 34
abbrev s_l_places : Stmt := topS 38
abbrev s_enter_term : Stmt := topS 17
abbrev s_l_due_parts : Stmt := topS 39
abbrev s_parts_within : Stmt := topS 18
abbrev s_l_spoilt : Stmt := topS 37
abbrev s_is_term : Stmt := topS 19
abbrev s_read : Stmt := topS 20
abbrev s_l_same : Stmt := topS 29
abbrev s_places_of : Stmt := topS 22
abbrev s_parts_of : Stmt := topS 24
abbrev s_term_text : Stmt := topS 25
abbrev s_l_told : Stmt := topS 40
abbrev s_l_refused : Stmt := topS 41
abbrev s_l_right : Stmt := topS 42
abbrev s_law : Stmt := topS 44
def k_MOST_LETTERS : PyData := (.int 8)
def k_MOST_NOTIONS : PyData := (.int 3)
def k_MOST_PLACES : PyData := (.int 2)
def k_MOST_TUPLES : PyData := (.int 3)
def k_WORDS : PyData := (.tuple [(.str "not"), (.str "both"), (.str "either"), (.str "turned"), (.str "chain"), (.str "some")])
structure Txt (K : PySem.W.Frag) (mg : Str → Option Value) (ct : Gx) where
  a_is_number_in : Addr
  fd_is_number_in : FuncData
  F_is_number_in : Fun K "is_number_in" "is_number_in" s_is_number_in a_is_number_in fd_is_number_in
  m_is_number_in : mg "is_number_in" = some (.ref a_is_number_in)
  b_is_number_in : Binds K fd_is_number_in ["thing", "least", "most"] []
  a_is_name : Addr
  fd_is_name : FuncData
  F_is_name : Fun K "_is_name" "_is_name" s_is_name a_is_name fd_is_name
  m_is_name : mg "_is_name" = some (.ref a_is_name)
  b_is_name : Binds K fd_is_name ["thing"] []
  a_places_of_one : Addr
  fd_places_of_one : FuncData
  F_places_of_one : Fun K "_places_of_one" "_places_of_one" s_places_of_one a_places_of_one fd_places_of_one
  m_places_of_one : mg "_places_of_one" = some (.ref a_places_of_one)
  b_places_of_one : Binds K fd_places_of_one ["word", "places"] []
  a_places_of_two : Addr
  fd_places_of_two : FuncData
  F_places_of_two : Fun K "_places_of_two" "_places_of_two" s_places_of_two a_places_of_two fd_places_of_two
  m_places_of_two : mg "_places_of_two" = some (.ref a_places_of_two)
  b_places_of_two : Binds K fd_places_of_two ["word", "places", "others"] []
  a_terms_by_text : Addr
  fd_terms_by_text : FuncData
  F_terms_by_text : Fun K "terms_by_text" "terms_by_text" s_terms_by_text a_terms_by_text fd_terms_by_text
  m_terms_by_text : mg "terms_by_text" = some (.ref a_terms_by_text)
  b_terms_by_text : Binds K fd_terms_by_text ["found"] []
  a_l_pool : Addr
  fd_l_pool : FuncData
  F_l_pool : Fun K "_law_pool" "_law_pool" s_l_pool a_l_pool fd_l_pool
  m_l_pool : mg "_law_pool" = some (.ref a_l_pool)
  b_l_pool : Binds K fd_l_pool ["script", "k"] []
  a_l_take : Addr
  fd_l_take : FuncData
  F_l_take : Fun K "_law_take" "_law_take" s_l_take a_l_take fd_l_take
  m_l_take : mg "_law_take" = some (.ref a_l_take)
  b_l_take : Binds K fd_l_take ["pool", "many"] []
  a_l_folded : Addr
  fd_l_folded : FuncData
  F_l_folded : Fun K "_law_folded" "_law_folded" s_l_folded a_l_folded fd_l_folded
  m_l_folded : mg "_law_folded" = some (.ref a_l_folded)
  b_l_folded : Binds K fd_l_folded ["script", "top"] []
  a_is_notions : Addr
  fd_is_notions : FuncData
  F_is_notions : Fun K "is_notions" "is_notions" s_is_notions a_is_notions fd_is_notions
  m_is_notions : mg "is_notions" = some (.ref a_is_notions)
  b_is_notions : Binds K fd_is_notions ["thing"] []
  a_l_names : Addr
  fd_l_names : FuncData
  F_l_names : Fun K "_law_names" "_law_names" s_l_names a_l_names fd_l_names
  m_l_names : mg "_law_names" = some (.ref a_l_names)
  b_l_names : Binds K fd_l_names ["pool", "many"] []
  a_l_term : Addr
  fd_l_term : FuncData
  F_l_term : Fun K "_law_term" "_law_term" s_l_term a_l_term fd_l_term
  m_l_term : mg "_law_term" = some (.ref a_l_term)
  b_l_term : Binds K fd_l_term ["pool", "notions", "deep"] []
  a_l_odd : Addr
  fd_l_odd : FuncData
  F_l_odd : Fun K "_law_odd" "_law_odd" s_l_odd a_l_odd fd_l_odd
  m_l_odd : mg "_law_odd" = some (.ref a_l_odd)
  b_l_odd : Binds K fd_l_odd ["pool"] []
  a_require_notions : Addr
  fd_require_notions : FuncData
  F_require_notions : Fun K "_require_notions" "_require_notions" s_require_notions a_require_notions fd_require_notions
  m_require_notions : mg "_require_notions" = some (.ref a_require_notions)
  b_require_notions : Binds K fd_require_notions ["thing"] []
  a_l_notions : Addr
  fd_l_notions : FuncData
  F_l_notions : Fun K "_law_notions" "_law_notions" s_l_notions a_l_notions fd_l_notions
  m_l_notions : mg "_law_notions" = some (.ref a_l_notions)
  b_l_notions : Binds K fd_l_notions ["pool"] []
  a_l_about : Addr
  fd_l_about : FuncData
  F_l_about : Fun K "_law_about" "_law_about" s_l_about a_l_about fd_l_about
  m_l_about : mg "_law_about" = some (.ref a_l_about)
  b_l_about : Binds K fd_l_about ["pool", "notions", "term"] []
  a_l_parts : Addr
  fd_l_parts : FuncData
  F_l_parts : Fun K "_law_parts" "_law_parts" s_l_parts a_l_parts fd_l_parts
  m_l_parts : mg "_law_parts" = some (.ref a_l_parts)
  b_l_parts : Binds K fd_l_parts ["term"] []
  a_l_text : Addr
  fd_l_text : FuncData
  F_l_text : Fun K "_law_text" "_law_text" s_l_text a_l_text fd_l_text
  m_l_text : mg "_law_text" = some (.ref a_l_text)
  b_l_text : Binds K fd_l_text ["term"] []
  a_l_places : Addr
  fd_l_places : FuncData
  F_l_places : Fun K "_law_places" "_law_places" s_l_places a_l_places fd_l_places
  m_l_places : mg "_law_places" = some (.ref a_l_places)
  b_l_places : Binds K fd_l_places ["notions", "thing", "left"] []
  a_enter_term : Addr
  fd_enter_term : FuncData
  F_enter_term : FunV K "enter_term" "enter_term" s_enter_term a_enter_term fd_enter_term
  m_enter_term : mg "enter_term" = some (.ref a_enter_term)
  b_enter_term : Binds K fd_enter_term ["names", "found", "thing", "tuples"] []
  dt_enter_term : Tok
  bd_enter_term : Binds K fd_enter_term ["names", "found", "thing", "tuples"] [.int 3 dt_enter_term]
  a_l_due_parts : Addr
  fd_l_due_parts : FuncData
  F_l_due_parts : Fun K "_law_due_parts" "_law_due_parts" s_l_due_parts a_l_due_parts fd_l_due_parts
  m_l_due_parts : mg "_law_due_parts" = some (.ref a_l_due_parts)
  b_l_due_parts : Binds K fd_l_due_parts ["term"] []
  a_parts_within : Addr
  fd_parts_within : FuncData
  F_parts_within : Fun K "parts_within" "parts_within" s_parts_within a_parts_within fd_parts_within
  m_parts_within : mg "parts_within" = some (.ref a_parts_within)
  b_parts_within : Binds K fd_parts_within ["notions", "thing"] []
  a_l_spoilt : Addr
  fd_l_spoilt : FuncData
  F_l_spoilt : Fun K "_law_spoilt" "_law_spoilt" s_l_spoilt a_l_spoilt fd_l_spoilt
  m_l_spoilt : mg "_law_spoilt" = some (.ref a_l_spoilt)
  b_l_spoilt : Binds K fd_l_spoilt ["pool", "thing", "deep"] []
  a_is_term : Addr
  fd_is_term : FuncData
  F_is_term : Fun K "is_term" "is_term" s_is_term a_is_term fd_is_term
  m_is_term : mg "is_term" = some (.ref a_is_term)
  b_is_term : Binds K fd_is_term ["notions", "thing"] []
  a_read : Addr
  fd_read : FuncData
  F_read : Fun K "_read" "_read" s_read a_read fd_read
  m_read : mg "_read" = some (.ref a_read)
  b_read : Binds K fd_read ["notions", "term"] []
  a_l_same : Addr
  fd_l_same : FuncData
  F_l_same : Fun K "_law_same" "_law_same" s_l_same a_l_same fd_l_same
  m_l_same : mg "_law_same" = some (.ref a_l_same)
  b_l_same : Binds K fd_l_same ["found", "due"] []
  a_places_of : Addr
  fd_places_of : FuncData
  F_places_of : Fun K "places_of" "places_of" s_places_of a_places_of fd_places_of
  m_places_of : mg "places_of" = some (.ref a_places_of)
  b_places_of : Binds K fd_places_of ["notions", "term"] []
  a_parts_of : Addr
  fd_parts_of : FuncData
  F_parts_of : Fun K "parts_of" "parts_of" s_parts_of a_parts_of fd_parts_of
  m_parts_of : mg "parts_of" = some (.ref a_parts_of)
  b_parts_of : Binds K fd_parts_of ["notions", "term"] []
  a_term_text : Addr
  fd_term_text : FuncData
  F_term_text : Fun K "term_text" "term_text" s_term_text a_term_text fd_term_text
  m_term_text : mg "term_text" = some (.ref a_term_text)
  b_term_text : Binds K fd_term_text ["notions", "term"] []
  a_l_told : Addr
  fd_l_told : FuncData
  F_l_told : Fun K "_law_told" "_law_told" s_l_told a_l_told fd_l_told
  m_l_told : mg "_law_told" = some (.ref a_l_told)
  b_l_told : Binds K fd_l_told ["way", "notions", "thing"] []
  a_l_refused : Addr
  fd_l_refused : FuncData
  F_l_refused : Fun K "_law_refused" "_law_refused" s_l_refused a_l_refused fd_l_refused
  m_l_refused : mg "_law_refused" = some (.ref a_l_refused)
  b_l_refused : Binds K fd_l_refused ["way", "notions", "thing"] []
  a_l_right : Addr
  fd_l_right : FuncData
  F_l_right : Fun K "_law_right" "_law_right" s_l_right a_l_right fd_l_right
  m_l_right : mg "_law_right" = some (.ref a_l_right)
  b_l_right : Binds K fd_l_right ["notions", "thing"] []
  a_law : Addr
  fd_law : FuncData
  F_law : Fun K "law" "law" s_law a_law fd_law
  m_law : mg "law" = some (.ref a_law)
  b_law : Binds K fd_law ["script"] []
  n_all : mg "all" = none
  n_bool : mg "bool" = none
  n_dict : mg "dict" = none
  n_int : mg "int" = none
  n_isinstance : mg "isinstance" = none
  n_len : mg "len" = none
  n_list : mg "list" = none
  n_max : mg "max" = none
  n_min : mg "min" = none
  n_range : mg "range" = none
  n_repr : mg "repr" = none
  n_sorted : mg "sorted" = none
  n_str : mg "str" = none
  n_sum : mg "sum" = none
  n_tuple : mg "tuple" = none
  n_type : mg "type" = none
  n_zip : mg "zip" = none
  k_MOST_LETTERS : ∀ {X : Cx} {W : WX} {pos : Pos}, X.K = K → X.mg = mg → Gl X "MOST_LETTERS" → SE X ct W (.Name "MOST_LETTERS" pos) (eD k_MOST_LETTERS)
  k_MOST_NOTIONS : ∀ {X : Cx} {W : WX} {pos : Pos}, X.K = K → X.mg = mg → Gl X "MOST_NOTIONS" → SE X ct W (.Name "MOST_NOTIONS" pos) (eD k_MOST_NOTIONS)
  k_MOST_PLACES : ∀ {X : Cx} {W : WX} {pos : Pos}, X.K = K → X.mg = mg → Gl X "MOST_PLACES" → SE X ct W (.Name "MOST_PLACES" pos) (eD k_MOST_PLACES)
  k_MOST_TUPLES : ∀ {X : Cx} {W : WX} {pos : Pos}, X.K = K → X.mg = mg → Gl X "MOST_TUPLES" → SE X ct W (.Name "MOST_TUPLES" pos) (eD k_MOST_TUPLES)
  k_WORDS : ∀ {X : Cx} {W : WX} {pos : Pos}, X.K = K → X.mg = mg → Gl X "WORDS" → SE X ct W (.Name "WORDS" pos) (eD k_WORDS)
  c_LoreError : Addr
  g_LoreError : mg "LoreError" = some (.ref c_LoreError)
  c_NoAtom : Addr
  g_NoAtom : mg "NoAtom" = some (.ref c_NoAtom)
  c_NoField : Addr
  g_NoField : mg "NoField" = some (.ref c_NoField)
  c_NoNotions : Addr
  g_NoNotions : mg "NoNotions" = some (.ref c_NoNotions)
  x_NoNotions : PySem.W.excIn K c_NoNotions [.type "ValueError", .type "Exception", .type "BaseException", .type "object"] "ValueError.__new__" = true
  kC_NoNotions : PySem.W.keepIn K (.ref c_NoNotions) = true
  s_NoNotions : PySem.W.subIn K (.ref c_NoNotions) (.type "BaseException") = some true
  t_NoNotions : PySem.W.typeIn K (.ref c_NoNotions) = some (.type "type")
  h_NoNotions : ct.tab "NoNotions" = some c_NoNotions
  E_NoNotions : ExcC K c_NoNotions
  c_NoTerm : Addr
  g_NoTerm : mg "NoTerm" = some (.ref c_NoTerm)
  x_NoTerm : PySem.W.excIn K c_NoTerm [.type "ValueError", .type "Exception", .type "BaseException", .type "object"] "ValueError.__new__" = true
  kC_NoTerm : PySem.W.keepIn K (.ref c_NoTerm) = true
  s_NoTerm : PySem.W.subIn K (.ref c_NoTerm) (.type "BaseException") = some true
  t_NoTerm : PySem.W.typeIn K (.ref c_NoTerm) = some (.type "type")
  h_NoTerm : ct.tab "NoTerm" = some c_NoTerm
  E_NoTerm : ExcC K c_NoTerm
  e_NoNotions_LoreError : PySem.W.exmOne K (.ref c_NoNotions) (.ref c_LoreError) = some true
  e_NoTerm_LoreError : PySem.W.exmOne K (.ref c_NoTerm) (.ref c_LoreError) = some true
  i_NoNotions_NoTerm : PySem.W.kitOne K (.ref c_NoNotions) (.ref c_NoTerm) = some false
  i_NoTerm_NoTerm : PySem.W.kitOne K (.ref c_NoTerm) (.ref c_NoTerm) = some true
  i_NoNotions_NoAtom_NoField_NoNotions : PySem.W.kitAny K (.ref c_NoNotions) [.ref c_NoAtom, .ref c_NoField, .ref c_NoNotions] = some true
  i_NoTerm_NoAtom_NoField_NoNotions : PySem.W.kitAny K (.ref c_NoTerm) [.ref c_NoAtom, .ref c_NoField, .ref c_NoNotions] = some false
section
variable {P : Program} {w : World} {K : PySem.W.Frag} {mg : Str → Option Value} {base : Heap} {ct : Gx}
abbrev n_is_number_in : List Str := ["thing", "least", "most"]
theorem sc_is_number_in : FnScope n_is_number_in ["thing", "least", "most"] (defScope s_is_number_in) := ⟨rfl, rfl, rfl, by decide +kernel, rfl, by decide +kernel, by decide +kernel⟩
def g_is_number_in : FS := (sRet (eAnd (u1 (tyIsD "int") (eName 0)) (eOfT (t3 leD leD (eName 1) (eName 0) (eName 2)))))
abbrev d_is_number_in : FD := runD n_is_number_in.length g_is_number_in
theorem ok_is_number_in (T : Txt K mg ct) : FnG P w K mg base (L2.CX P w) 1 T.a_is_number_in T.fd_is_number_in ["thing", "least", "most"] (spOf K ct (List.length (α := Str) ["thing", "least", "most"]) d_is_number_in) := by
  refine def_ok (k := 0) (N := n_is_number_in) (ps := ["thing", "least", "most"]) (g := g_is_number_in) T.F_is_number_in sc_is_number_in fun cdv A outer s H E hr quiet => ?_
  exact (sss_one (ss_ret (se_and (se_tyIs (T := "int") rfl rfl T.n_type rfl T.n_int bo_int (se_name 0)) (se_one (se_chain rel_le rel_le (se_name 1) (se_name 0) (se_name 2))))))

abbrev n_is_name : List Str := ["thing"]
theorem sc_is_name : FnScope n_is_name ["thing"] (defScope s_is_name) := ⟨rfl, rfl, rfl, by decide +kernel, rfl, by decide +kernel, by decide +kernel⟩
def g_is_name : FS := (sSeq (sIf (tOrF (tst (u1 (tyNotD "str") (eName 0))) (tOrF (t2 gtD (un lenD (aCons (eName 0) aNil)) (eD k_MOST_LETTERS)) (t2 inD (eName 0) (eD k_WORDS))))
    (sRet (eD (.bool false)))
    sNext)
    (sRet (eAnd (u1 (tellD Txt.isascii) (eName 0)) (eAnd (u1 (tellD Txt.isalpha) (eName 0)) (u1 (tellD Txt.islower) (eName 0))))))
abbrev d_is_name : FD := runD n_is_name.length g_is_name
theorem ok_is_name (T : Txt K mg ct) : FnG P w K mg base (L2.CX P w) 1 T.a_is_name T.fd_is_name ["thing"] (spOf K ct (List.length (α := Str) ["thing"]) d_is_name) := by
  refine def_ok (k := 0) (N := n_is_name) (ps := ["thing"]) (g := g_is_name) T.F_is_name sc_is_name fun cdv A outer s H E hr quiet => ?_
  exact (sss_cons (ss_if (st_w (sw_or (st_tyNot (T := "str") rfl rfl T.n_type rfl T.n_str bo_str (se_name 0)) (sw_or (st_cmp rel_gt (se_fun call_lenA rfl T.n_len bo_len (sa_cons (se_name 0) sa_nil)) (T.k_MOST_LETTERS rfl rfl rfl) (nomark _)) (sw_or1 (st_cmp (rel_in (hu65 hr)) (se_name 0) (T.k_WORDS rfl rfl rfl) rfl)))))
    (sss_one (ss_ret se_bl))
    sss_nil)
    (sss_one (ss_ret (se_and (se_isascii (se_name 0)) (se_and (se_isalpha (se_name 0)) (se_one (se_islower (se_name 0))))))))

abbrev n_places_of_one : List Str := ["word", "places"]
theorem sc_places_of_one : FnScope n_places_of_one ["word", "places"] (defScope s_places_of_one) := ⟨rfl, rfl, rfl, by decide +kernel, rfl, by decide +kernel, by decide +kernel⟩
def g_places_of_one : FS := (sSeq (sIf (tOrF (t2 eqX (eName 0) (eD (.str "not"))) (tAndF (t2 eqX (eName 0) (eD (.str "turned"))) (t2 eqE (eName 1) (eD (.int 2)))))
    (sRet (eName 1))
    sNext)
    (sRet (eIf (tAndF (t2 eqX (eName 0) (eD (.str "some"))) (t2 eqE (eName 1) (eD (.int 2)))) (eD (.int 1)) (eD (.int 0)))))
abbrev d_places_of_one : FD := runD n_places_of_one.length g_places_of_one
theorem ok_places_of_one (T : Txt K mg ct) : FnG P w K mg base (L2.CX P w) 1 T.a_places_of_one T.fd_places_of_one ["word", "places"] (spOf K ct (List.length (α := Str) ["word", "places"]) d_places_of_one) := by
  refine def_ok (k := 0) (N := n_places_of_one) (ps := ["word", "places"]) (g := g_places_of_one) T.F_places_of_one sc_places_of_one fun cdv A outer s H E hr quiet => ?_
  exact (sss_cons (ss_if (st_w (sw_or (st_cmp (rel_eqX (hu64 hr)) (se_name 0) se_str (nomark _)) (sw_or1 (st_w (sw_and (st_cmp (rel_eqX (hu64 hr)) (se_name 0) se_str (nomark _)) (sw_and1 (st_cmp (rel_eqE (hu64 hr)) (se_name 1) se_int (nomark _))))))))
    (sss_one (ss_ret (se_name 1)))
    sss_nil)
    (sss_one (ss_ret (se_if (st_w (sw_and (st_cmp (rel_eqX (hu64 hr)) (se_name 0) se_str (nomark _)) (sw_and1 (st_cmp (rel_eqE (hu64 hr)) (se_name 1) se_int (nomark _))))) se_int se_int))))

abbrev n_places_of_two : List Str := ["word", "places", "others"]
theorem sc_places_of_two : FnScope n_places_of_two ["word", "places", "others"] (defScope s_places_of_two) := ⟨rfl, rfl, rfl, by decide +kernel, rfl, by decide +kernel, by decide +kernel⟩
def g_places_of_two : FS := (sSeq (sIf (t2 neE (eName 1) (eName 2))
    (sRet (eD (.int 0)))
    sNext)
    (sSeq (sIf (tOrF (t2 eqX (eName 0) (eD (.str "both"))) (tOrF (t2 eqX (eName 0) (eD (.str "either"))) (tAndF (t2 eqX (eName 0) (eD (.str "chain"))) (t2 eqE (eName 1) (eD (.int 2))))))
    (sRet (eName 1))
    sNext)
    (sRet (eD (.int 0)))))
abbrev d_places_of_two : FD := runD n_places_of_two.length g_places_of_two
theorem ok_places_of_two (T : Txt K mg ct) : FnG P w K mg base (L2.CX P w) 1 T.a_places_of_two T.fd_places_of_two ["word", "places", "others"] (spOf K ct (List.length (α := Str) ["word", "places", "others"]) d_places_of_two) := by
  refine def_ok (k := 0) (N := n_places_of_two) (ps := ["word", "places", "others"]) (g := g_places_of_two) T.F_places_of_two sc_places_of_two fun cdv A outer s H E hr quiet => ?_
  exact (sss_cons (ss_if (st_cmp (rel_neE (hu64 hr)) (se_name 1) (se_name 2) (nomark _))
    (sss_one (ss_ret se_int))
    sss_nil)
    (sss_cons (ss_if (st_w (sw_or (st_cmp (rel_eqX (hu64 hr)) (se_name 0) se_str (nomark _)) (sw_or (st_cmp (rel_eqX (hu64 hr)) (se_name 0) se_str (nomark _)) (sw_or1 (st_w (sw_and (st_cmp (rel_eqX (hu64 hr)) (se_name 0) se_str (nomark _)) (sw_and1 (st_cmp (rel_eqE (hu64 hr)) (se_name 1) se_int (nomark _)))))))))
    (sss_one (ss_ret (se_name 1)))
    sss_nil)
    (sss_one (ss_ret se_int))))

abbrev n_terms_by_text : List Str := ["found", "text"]
theorem sc_terms_by_text : FnScope n_terms_by_text ["found"] (defScope s_terms_by_text) := ⟨rfl, rfl, rfl, by decide +kernel, rfl, by decide +kernel, by decide +kernel⟩
def g_terms_by_text : FS := (sRet (un tupleD (aCons (eLc [1] (iSeq (un sortedDD (aCons (eName 0) aNil))) (gN 1) tTrue (u2 ixD (u2 keyD2 (eName 0) (eName 1)) (eD (.int 0)))) aNil)))
abbrev d_terms_by_text : FD := runD n_terms_by_text.length g_terms_by_text
theorem ok_terms_by_text (T : Txt K mg ct) : FnG P w K mg base (L2.CX P w) 1 T.a_terms_by_text T.fd_terms_by_text ["found"] (spOf K ct (List.length (α := Str) ["found"]) d_terms_by_text) := by
  refine def_ok (k := 0) (N := n_terms_by_text) (ps := ["found"]) (g := g_terms_by_text) T.F_terms_by_text sc_terms_by_text fun cdv A outer s H E hr quiet => ?_
  exact (sss_one (ss_ret (se_type call_tupleA rfl T.n_tuple bo_tuple (sa_cons (se_lc [("text", 1)] rfl sc_terms_by_text.nd (si_seq (se_fun (call_sortedA rfl) rfl T.n_sorted bo_sorted (sa_cons (se_name 0) sa_nil)) (fun _ h => pi_list h) (fun _ h => pi_tup h)) (blkOk_by (N := n_terms_by_text) (sc := defScope s_terms_by_text) (by decide +kernel)) (by decide) (fun _ _ _ _ _ => (sg_name 1 sc_terms_by_text.nd)) (fun _ _ _ _ _ => spt_nil) (fun _ _ _ _ _ => (se_ix (se_key (hu1 hr) (se_name 0) (se_name 1)) se_int))) sa_nil))))

abbrev n_l_pool : List Str := ["script", "k", "cell"]
theorem sc_l_pool : FnScope n_l_pool ["script", "k"] (defScope s_l_pool) := ⟨rfl, rfl, rfl, by decide +kernel, rfl, by decide +kernel, by decide +kernel⟩
def g_l_pool : FS := (sSeq (sSet false 2 (eD (.int 0)))
    (sSeq (sIf (t2 ltD (eName 1) (un lenD (aCons (eName 0) aNil)))
    (sSet false 2 (u2 ixD (eName 0) (eName 1)))
    sNext)
    (sRetW (eLst (aCons (un maxD (aCons (eD (.int 0)) (aCons (u2 subD (eName 2) (u2 powD (eD (.int 10)) (eD (.int 18)))) aNil))) (aCons (u2 modD (eName 2) (eD (.int 1000000007))) (aCons (u2 addD (u2 mulD (eD (.int 7919)) (eName 1)) (eD (.int 1))) aNil)))))))
abbrev d_l_pool : FD := runD n_l_pool.length g_l_pool
theorem ok_l_pool (T : Txt K mg ct) : FnG P w K mg base (L2.CX P w) 1 T.a_l_pool T.fd_l_pool ["script", "k"] (spOf K ct (List.length (α := Str) ["script", "k"]) d_l_pool) := by
  refine def_ok (k := 0) (N := n_l_pool) (ps := ["script", "k"]) (g := g_l_pool) T.F_l_pool sc_l_pool fun cdv A outer s H E hr quiet => ?_
  exact (sss_cons (ss_set false 2 se_int sc_l_pool.nd)
    (sss_cons (ss_if (st_cmp rel_lt (se_name 1) (se_fun call_lenA rfl T.n_len bo_len (sa_cons (se_name 0) sa_nil)) (nomark _))
    (sss_one (ss_set false 2 (se_ix (se_name 0) (se_name 1)) sc_l_pool.nd))
    sss_nil)
    (sss_one (ss_retW (se_lst (sa_cons (se_fun (call_maxA rfl) rfl T.n_max bo_max (sa_cons se_int (sa_cons (se_sub (se_name 2) (se_pow se_int se_int)) sa_nil))) (sa_cons (se_mod (se_name 2) se_int) (sa_cons (se_add (se_mul se_int (se_name 1)) se_int) sa_nil))) (soft_cons (soft_cons (soft_cons soft_nil))))))))

abbrev n_l_take : List Str := ["pool", "many", "digit", "one", "two"]
theorem sc_l_take : FnScope n_l_take ["pool", "many"] (defScope s_l_take) := ⟨rfl, rfl, rfl, by decide +kernel, rfl, by decide +kernel, by decide +kernel⟩
def g_l_take : FS := (sSeq (sIf (t2 gtD (u2 ixD (eName 0) (eD (.int 0))) (eD (.int 0)))
    (sSeq (sSet false 2 (u2 modD (u2 ixD (eName 0) (eD (.int 0))) (eName 1)))
    (sSeq (sSetIx (u2 fdivD (u2 ixD (eName 0) (eD (.int 0))) (eName 1)) (eName 0) (eD (.int 0)))
    (sRet (eName 2))))
    sNext)
    (sSeq (sSetIx (u2 addD (u2 ixD (eName 0) (eD (.int 2))) (eD (.int 1))) (eName 0) (eD (.int 2)))
    (sSeq (sSet false 3 (u2 modD (u2 addD (u2 addD (u2 mulD (u2 ixD (eName 0) (eD (.int 1))) (eD (.int 48271))) (u2 mulD (eD (.int 104729)) (u2 ixD (eName 0) (eD (.int 2))))) (eD (.int 101))) (eD (.int 2147483629))))
    (sSeq (sSet false 3 (u2 modD (u2 powD (eName 3) (eD (.int 5))) (eD (.int 2147483587))))
    (sSeq (sSet false 4 (u2 modD (u2 powD (u2 addD (u2 addD (eName 3) (u2 mulD (u2 mulD (eD (.int 69621)) (u2 ixD (eName 0) (eD (.int 2)))) (u2 ixD (eName 0) (eD (.int 2))))) (u2 modD (u2 ixD (eName 0) (eD (.int 1))) (eD (.int 65537)))) (eD (.int 3))) (eD (.int 2147483563))))
    (sRet (u2 modD (u2 fdivD (u2 modD (u2 mulD (eName 4) (eD (.int 40692))) (eD (.int 2147483549))) (eD (.int 64))) (eName 1))))))))
abbrev d_l_take : FD := runD n_l_take.length g_l_take
theorem ok_l_take (T : Txt K mg ct) : FnG P w K mg base (L2.CX P w) 1 T.a_l_take T.fd_l_take ["pool", "many"] (spOf K ct (List.length (α := Str) ["pool", "many"]) d_l_take) := by
  refine def_ok (k := 0) (N := n_l_take) (ps := ["pool", "many"]) (g := g_l_take) T.F_l_take sc_l_take fun cdv A outer s H E hr quiet => ?_
  exact (sss_cons (ss_if (st_cmp rel_gt (se_ix (se_name 0) se_int) se_int (nomark _))
    (sss_cons (ss_set false 2 (se_mod (se_ix (se_name 0) se_int) (se_name 1)) sc_l_take.nd)
    (sss_cons (ss_setIx (se_fdiv (se_ix (se_name 0) se_int) (se_name 1)) (se_name 0) se_int)
    (sss_one (ss_ret (se_name 2)))))
    sss_nil)
    (sss_cons (ss_setIx (se_add (se_ix (se_name 0) se_int) se_int) (se_name 0) se_int)
    (sss_cons (ss_set false 3 (se_mod (se_add (se_add (se_mul (se_ix (se_name 0) se_int) se_int) (se_mul se_int (se_ix (se_name 0) se_int))) se_int) se_int) sc_l_take.nd)
    (sss_cons (ss_set false 3 (se_mod (se_pow (se_name 3) se_int) se_int) sc_l_take.nd)
    (sss_cons (ss_set false 4 (se_mod (se_pow (se_add (se_add (se_name 3) (se_mul (se_mul se_int (se_ix (se_name 0) se_int)) (se_ix (se_name 0) se_int))) (se_mod (se_ix (se_name 0) se_int) se_int)) se_int) se_int) sc_l_take.nd)
    (sss_one (ss_ret (se_mod (se_fdiv (se_mod (se_mul (se_name 4) se_int) se_int) se_int) (se_name 1)))))))))

abbrev n_l_folded : List Str := ["script", "top", "k"]
theorem sc_l_folded : FnScope n_l_folded ["script", "top"] (defScope s_l_folded) := ⟨rfl, rfl, rfl, by decide +kernel, rfl, by decide +kernel, by decide +kernel⟩
def g_l_folded : FS := (sRet (eLc [2] (iR1 (un maxD (aCons (eD (.int 1)) (aCons (un minD (aCons (eName 1) (aCons (un lenD (aCons (eName 0) aNil)) aNil))) aNil)))) (gN 2) tTrue (un sumD (aCons (eCut3 (eName 0) (oInt (eName 2)) (oInt (eD (.int 63))) (oInt (eName 1))) aNil))))
abbrev d_l_folded : FD := runD n_l_folded.length g_l_folded
theorem ok_l_folded (T : Txt K mg ct) : FnG P w K mg base (L2.CX P w) 1 T.a_l_folded T.fd_l_folded ["script", "top"] (spOf K ct (List.length (α := Str) ["script", "top"]) d_l_folded) := by
  refine def_ok (k := 0) (N := n_l_folded) (ps := ["script", "top"]) (g := g_l_folded) T.F_l_folded sc_l_folded fun cdv A outer s H E hr quiet => ?_
  exact (sss_one (ss_ret (se_lc [("k", 2)] rfl sc_l_folded.nd (si_range1 (se_fun (call_maxA rfl) rfl T.n_max bo_max (sa_cons se_int (sa_cons (se_fun (call_minA rfl) rfl T.n_min bo_min (sa_cons (se_name 1) (sa_cons (se_fun call_lenA rfl T.n_len bo_len (sa_cons (se_name 0) sa_nil)) sa_nil))) sa_nil))) rfl T.n_range) (blkOk_by (N := n_l_folded) (sc := defScope s_l_folded) (by decide +kernel)) (by decide) (fun _ _ _ _ _ => (sg_name 2 sc_l_folded.nd)) (fun _ _ _ _ _ => spt_nil) (fun _ _ _ _ _ => (se_fun (call_sumA rfl) rfl T.n_sum bo_sum (sa_cons (se_cut3 (se_name 0) (so_some (se_name 2)) (so_some se_int) (so_some (se_name 1))) sa_nil))))))

abbrev n_is_notions : List Str := ["thing", "names", "part"]
theorem sc_is_notions : FnScope n_is_notions ["thing"] (defScope s_is_notions) := ⟨rfl, rfl, rfl, by decide +kernel, rfl, by decide +kernel, by decide +kernel⟩
def g_is_notions : FS := (sSeq (sIf (tOrF (tst (u1 (tyNotD "tuple") (eName 0))) (tNotF (t3 leD leD (eD (.int 1)) (un lenD (aCons (eName 0) aNil)) (eD k_MOST_NOTIONS))))
    (sRet (eD (.bool false)))
    sNext)
    (sSeq (sSet true 1 eDic0)
    (sSeq (sForI (iSeq (eName 0)) (gN 2)
    (sSeq (sIf (tOrF (tst (u1 (tyNotD "tuple") (eName 2))) (tOrF (t2 neE (un lenD (aCons (eName 2) aNil)) (eD (.int 2))) (tNotF (tst (eCall d_is_name [false] (aCons (u2 ixD (eName 2) (eD (.int 0))) aNil))))))
    (sRet (eD (.bool false)))
    sNext)
    (sSeq (sIf (tNotF (tst (eCall d_is_number_in [false, false, false] (aCons (u2 ixD (eName 2) (eD (.int 1))) (aCons (eD (.int 1)) (aCons (eD k_MOST_PLACES) aNil))))))
    (sRet (eD (.bool false)))
    sNext)
    (sSetKey (eD (.bool true)) (eName 1) (u2 ixD (eName 2) (eD (.int 0)))))))
    (sRet (u2 (asB eqE) (un lenKD (aCons (eName 1) aNil)) (un lenD (aCons (eName 0) aNil)))))))
abbrev d_is_notions : FD := runD n_is_notions.length g_is_notions
theorem ok_is_notions (T : Txt K mg ct) : FnG P w K mg base (L2.CX P w) 2 T.a_is_notions T.fd_is_notions ["thing"] (spOf K ct (List.length (α := Str) ["thing"]) d_is_notions) := by
  refine def_ok (k := 1) (N := n_is_notions) (ps := ["thing"]) (g := g_is_notions) T.F_is_notions sc_is_notions fun cdv A outer s H E hr quiet => ?_
  exact (sss_cons (ss_if (st_w (sw_or (st_tyNot (T := "tuple") rfl rfl T.n_type rfl T.n_tuple bo_tuple (se_name 0)) (sw_or1 (st_not (st_chain rel_le rel_le se_int (se_fun call_lenA rfl T.n_len bo_len (sa_cons (se_name 0) sa_nil)) (T.k_MOST_NOTIONS rfl rfl rfl))))))
    (sss_one (ss_ret se_bl))
    sss_nil)
    (sss_cons (ss_set true 1 se_dic0 sc_is_notions.nd)
    (sss_cons (ss_for (passes_of rfl) rfl (si_seq (se_name 0) (fun _ h => pi_list h) (fun _ h => pi_tup h)) (sg_name 2 sc_is_notions.nd)
    (sss_cons (ss_if (st_w (sw_or (st_tyNot (T := "tuple") rfl rfl T.n_type rfl T.n_tuple bo_tuple (se_name 2)) (sw_or (st_cmp (rel_neE (hu64 hr)) (se_fun call_lenA rfl T.n_len bo_len (sa_cons (se_name 2) sa_nil)) se_int (nomark _)) (sw_or1 (st_not (st_val (se_call [false] (ok_is_name T) rfl (hr.mono (by decide)) quiet rfl T.m_is_name T.F_is_name.kp T.b_is_name (takes_of rfl rfl rfl rfl) (sa_cons (se_ix (se_name 2) se_int) sa_nil) (soft_cons soft_nil))))))))
    (sss_one (ss_ret se_bl))
    sss_nil)
    (sss_cons (ss_if (st_not (st_val (se_call [false, false, false] (ok_is_number_in T) rfl (hr.mono (by decide)) quiet rfl T.m_is_number_in T.F_is_number_in.kp T.b_is_number_in (takes_of rfl rfl rfl rfl) (sa_cons (se_ix (se_name 2) se_int) (sa_cons se_int (sa_cons (T.k_MOST_PLACES rfl rfl rfl) sa_nil))) (soft_cons (soft_cons (soft_cons soft_nil))))))
    (sss_one (ss_ret se_bl))
    sss_nil)
    (sss_one (ss_setKey (hu1 hr) se_bl (se_name 1) (se_ix (se_name 2) se_int))))))
    (sss_one (ss_ret (se_cmp (rel_eqE (hu64 hr)) (se_fun call_lenKA rfl T.n_len bo_len (sa_cons (se_name 1) sa_nil)) (se_fun call_lenA rfl T.n_len bo_len (sa_cons (se_name 0) sa_nil)) (nomark _)))))))

abbrev n_l_names : List Str := ["pool", "many", "letters", "found", "word", "at", "some", "k", "turn", "letter", "one"]
theorem sc_l_names : FnScope n_l_names ["pool", "many"] (defScope s_l_names) := ⟨rfl, rfl, rfl, by decide +kernel, rfl, by decide +kernel, by decide +kernel⟩
def g_l_names : FS := (sSeq (sSet false 2 (u2 ixD (eLst (aCons (eD (.str "abcdefghijklmnopqrstuvwxyz")) (aCons (eD (.str "ab")) aNil))) (eCall d_l_take [true, false] (aCons (eName 0) (aCons (eD (.int 2)) aNil)))))
    (sSeq (sSet true 3 (eLst (aCons (eD (.str "not")) (aCons (eD (.str "both")) (aCons (eD (.str "either")) (aCons (eD (.str "turned")) (aCons (eD (.str "chain")) (aCons (eD (.str "some")) aNil))))))))
    (sSeq (sForI (iR1 (eName 1)) (gN 7)
    (sSeq (sSet false 4 (u1 (joinD "") (eLc [8] (iR1 (u2 addD (eD (.int 1)) (eCall d_l_take [true, false] (aCons (eName 0) (aCons (eD (.int 8)) aNil))))) (gN 8) tTrue (u2 ixD (eName 2) (eCall d_l_take [true, false] (aCons (eName 0) (aCons (un lenD (aCons (eName 2) aNil)) aNil)))))))
    (sSeq (sIf (tAndF (t2 gtD (eName 7) (eD (.int 0))) (t2 eqE (eCall d_l_take [true, false] (aCons (eName 0) (aCons (eD (.int 3)) aNil))) (eD (.int 0))))
    (sSet false 4 (u2 ixD (eName 3) (u1 negD (eD (.int 1)))))
    sNext)
    (sSeq (sSet false 5 (eCall d_l_take [true, false] (aCons (eName 0) (aCons (un lenD (aCons (eName 4) aNil)) aNil))))
    (sSeq (sSet false 6 (u2 addD (eLst (aCons (eName 4) aNil)) (eLc [9] (iText (eD (.str "abcdefghijklmnopqrstuvwxyz"))) (gN 9) tTrue (u2 addD (u2 addD (eCut (eName 4) oNone (oInt (eName 5))) (eName 9)) (eCut (eName 4) (oInt (u2 addD (eName 5) (eD (.int 1)))) oNone)))))
    (sExpr (eApp (eName 3) (u2 ixD (eLc [10] (iSeq (eName 6)) (gN 10) (t2 notInD (eName 10) (eName 3)) (eName 10)) (eD (.int 0))))))))))
    (sRet (eCut (eName 3) (oInt (eD (.int 6))) oNone)))))
abbrev d_l_names : FD := runD n_l_names.length g_l_names
theorem ok_l_names (T : Txt K mg ct) : FnG P w K mg base (L2.CX P w) 2 T.a_l_names T.fd_l_names ["pool", "many"] (spOf K ct (List.length (α := Str) ["pool", "many"]) d_l_names) := by
  refine def_ok (k := 1) (N := n_l_names) (ps := ["pool", "many"]) (g := g_l_names) T.F_l_names sc_l_names fun cdv A outer s H E hr quiet => ?_
  exact (sss_cons (ss_set false 2 (se_ix (se_lst (sa_cons se_str (sa_cons se_str sa_nil)) (soft_cons (soft_cons soft_nil))) (se_call [true, false] (ok_l_take T) rfl (hr.mono (by decide)) quiet rfl T.m_l_take T.F_l_take.kp T.b_l_take (takes_of rfl rfl rfl rfl) (sa_cons (se_name 0) (sa_cons se_int sa_nil)) (soft_cons (soft_cons soft_nil)))) sc_l_names.nd)
    (sss_cons (ss_set true 3 (se_lst (sa_cons se_str (sa_cons se_str (sa_cons se_str (sa_cons se_str (sa_cons se_str (sa_cons se_str sa_nil)))))) (soft_cons (soft_cons (soft_cons (soft_cons (soft_cons (soft_cons soft_nil))))))) sc_l_names.nd)
    (sss_cons (ss_for (passes_of rfl) rfl (si_range1 (se_name 1) rfl T.n_range) (sg_name 7 sc_l_names.nd)
    (sss_cons (ss_set false 4 (se_join (by decide +kernel) (se_lc [("turn", 8)] rfl sc_l_names.nd (si_range1 (se_add se_int (se_call [true, false] (ok_l_take T) rfl (hr.mono (by decide)) quiet rfl T.m_l_take T.F_l_take.kp T.b_l_take (takes_of rfl rfl rfl rfl) (sa_cons (se_name 0) (sa_cons se_int sa_nil)) (soft_cons (soft_cons soft_nil)))) rfl T.n_range) (blkOk_by (N := n_l_names) (sc := defScope s_l_names) (by decide +kernel)) (by decide) (fun _ _ _ _ _ => (sg_name 8 sc_l_names.nd)) (fun _ _ _ _ _ => spt_nil) (fun _ _ _ _ _ => (se_ix (se_name 2) (se_call [true, false] (ok_l_take T) rfl (hr.mono (by decide)) quiet rfl T.m_l_take T.F_l_take.kp T.b_l_take takes0 (sa_cons (se_name 0) (sa_cons (se_fun call_lenA rfl T.n_len bo_len (sa_cons (se_name 2) sa_nil)) sa_nil)) (soft_cons (soft_cons soft_nil))))))) sc_l_names.nd)
    (sss_cons (ss_if (st_w (sw_and (st_cmp rel_gt (se_name 7) se_int (nomark _)) (sw_and1 (st_cmp (rel_eqE (hu64 hr)) (se_call [true, false] (ok_l_take T) rfl (hr.mono (by decide)) quiet rfl T.m_l_take T.F_l_take.kp T.b_l_take (takes_of rfl rfl rfl rfl) (sa_cons (se_name 0) (sa_cons se_int sa_nil)) (soft_cons (soft_cons soft_nil))) se_int (nomark _)))))
    (sss_one (ss_set false 4 (se_ix (se_name 3) (se_neg se_int)) sc_l_names.nd))
    sss_nil)
    (sss_cons (ss_set false 5 (se_call [true, false] (ok_l_take T) rfl (hr.mono (by decide)) quiet rfl T.m_l_take T.F_l_take.kp T.b_l_take (takes_of rfl rfl rfl rfl) (sa_cons (se_name 0) (sa_cons (se_fun call_lenA rfl T.n_len bo_len (sa_cons (se_name 4) sa_nil)) sa_nil)) (soft_cons (soft_cons soft_nil))) sc_l_names.nd)
    (sss_cons (ss_set false 6 (se_add (se_lst (sa_cons (se_name 4) sa_nil) (soft_cons soft_nil)) (se_lc [("letter", 9)] rfl sc_l_names.nd (si_text se_str fun _ h => pi_str h) (blkOk_by (N := n_l_names) (sc := defScope s_l_names) (by decide +kernel)) (by decide) (fun _ _ _ _ _ => (sg_name 9 sc_l_names.nd)) (fun _ _ _ _ _ => spt_nil) (fun _ _ _ _ _ => (se_add (se_add (se_cut (se_name 4) so_none (so_some (se_name 5))) (se_name 9)) (se_cut (se_name 4) (so_some (se_add (se_name 5) se_int)) so_none))))) sc_l_names.nd)
    (sss_one (ss_expr (se_append (se_name 3) (se_ix (se_lc [("one", 10)] rfl sc_l_names.nd (si_seq (se_name 6) (fun _ h => pi_list h) (fun _ h => pi_tup h)) (blkOk_by (N := n_l_names) (sc := defScope s_l_names) (by decide +kernel)) (by decide) (fun _ _ _ _ _ => (sg_name 10 sc_l_names.nd)) (fun _ _ _ _ _ => (spt_one (st_cmp (rel_notIn (hu65 hr)) (se_name 10) (se_name 3) rfl))) (fun _ _ _ _ _ => (se_name 10))) se_int)))))))))
    (sss_one (ss_ret (se_cut (se_name 3) (so_some se_int) so_none))))))

abbrev n_l_term : List Str := ["pool", "notions", "deep", "term", "places", "mates", "mate", "way", "pair", "made", "turn", "name", "many"]
theorem sc_l_term : FnScope n_l_term ["pool", "notions", "deep"] (defScope s_l_term) := ⟨rfl, rfl, rfl, by decide +kernel, rfl, by decide +kernel, by decide +kernel⟩
def g_l_term : FS := (sSeq (sAsg (gT 2 (gCons' (gN 3) (gCons' (gN 4) gNil'))) (u2 ixD (eName 1) (eCall d_l_take [true, false] (aCons (eName 0) (aCons (un lenD (aCons (eName 1) aNil)) aNil)))))
    (sSeq (sForI (iR1 (eCall d_l_take [true, false] (aCons (eName 0) (aCons (u2 addD (eName 2) (eD (.int 1))) aNil)))) (gN 10)
    (sSeq (sSet false 5 (u2 addD (eLc [11, 12] (iSeq (eName 1)) (gT 2 (gCons' (gN 11) (gCons' (gN 12) gNil'))) (t2 eqE (eName 12) (eName 4)) (eName 11)) (eLst (aCons (eName 3) aNil))))
    (sSeq (sIf (tNotF (tst (u1 (isD "str") (eName 3))))
    (sSet false 5 (u2 addD (eName 5) (eLc [6] (iSeq (eCut (eName 5) oNone (oInt (u1 negD (eD (.int 1)))))) (gN 6) tTrue (eTup (aCons (eD (.str "not")) (aCons (eName 6) aNil))))))
    sNext)
    (sSeq (sSet false 6 (u2 ixD (eName 5) (eCall d_l_take [true, false] (aCons (eName 0) (aCons (un lenD (aCons (eName 5) aNil)) aNil)))))
    (sSeq (sSet false 7 (eCall d_l_take [true, false] (aCons (eName 0) (aCons (u2 ixD (eLst (aCons (eD (.int 3)) (aCons (eD (.int 6)) aNil))) (u2 subD (eName 4) (eD (.int 1)))) aNil))))
    (sSeq (sSet false 8 (u2 ixD (eLst (aCons (eTup (aCons (eName 3) (aCons (eName 6) aNil))) (aCons (eTup (aCons (eName 6) (aCons (eName 3) aNil))) aNil))) (eCall d_l_take [true, false] (aCons (eName 0) (aCons (eD (.int 2)) aNil)))))
    (sSeq (sSet false 9 (eLst (aCons (eTup (aCons (eD (.str "not")) (aCons (eName 3) aNil))) (aCons (u2 addD (eTup (aCons (eD (.str "both")) aNil)) (eName 8)) (aCons (u2 addD (eTup (aCons (eD (.str "either")) aNil)) (eName 8)) (aCons (u2 addD (eTup (aCons (eD (.str "chain")) aNil)) (eName 8)) aNil))))))
    (sSeq (sSet false 3 (u2 ixD (u2 addD (eName 9) (eLst (aCons (eTup (aCons (eD (.str "turned")) (aCons (eName 3) aNil))) (aCons (eTup (aCons (eD (.str "some")) (aCons (eName 3) aNil))) aNil)))) (eName 7)))
    (sSet false 4 (u2 subD (eName 4) (un intD (aCons (u2 (asB eqE) (eName 7) (eD (.int 5))) aNil))))))))))))
    (sRet (eTup (aCons (eName 3) (aCons (eName 4) aNil))))))
abbrev d_l_term : FD := runD n_l_term.length g_l_term
theorem ok_l_term (T : Txt K mg ct) : FnG P w K mg base (L2.CX P w) 2 T.a_l_term T.fd_l_term ["pool", "notions", "deep"] (spOf K ct (List.length (α := Str) ["pool", "notions", "deep"]) d_l_term) := by
  refine def_ok (k := 1) (N := n_l_term) (ps := ["pool", "notions", "deep"]) (g := g_l_term) T.F_l_term sc_l_term fun cdv A outer s H E hr quiet => ?_
  exact (sss_cons (ss_asg (sg_tup (n := 2) rfl (sgs_cons (sg_name 3 sc_l_term.nd) (sgs_cons (sg_name 4 sc_l_term.nd) sgs_nil))) (se_ix (se_name 1) (se_call [true, false] (ok_l_take T) rfl (hr.mono (by decide)) quiet rfl T.m_l_take T.F_l_take.kp T.b_l_take (takes_of rfl rfl rfl rfl) (sa_cons (se_name 0) (sa_cons (se_fun call_lenA rfl T.n_len bo_len (sa_cons (se_name 1) sa_nil)) sa_nil)) (soft_cons (soft_cons soft_nil)))))
    (sss_cons (ss_for (passes_of rfl) rfl (si_range1 (se_call [true, false] (ok_l_take T) rfl (hr.mono (by decide)) quiet rfl T.m_l_take T.F_l_take.kp T.b_l_take (takes_of rfl rfl rfl rfl) (sa_cons (se_name 0) (sa_cons (se_add (se_name 2) se_int) sa_nil)) (soft_cons (soft_cons soft_nil))) rfl T.n_range) (sg_name 10 sc_l_term.nd)
    (sss_cons (ss_set false 5 (se_add (se_lc [("name", 11), ("many", 12)] rfl sc_l_term.nd (si_seq (se_name 1) (fun _ h => pi_list h) (fun _ h => pi_tup h)) (blkOk_by (N := n_l_term) (sc := defScope s_l_term) (by decide +kernel)) (by decide) (fun _ _ _ _ _ => (sg_tup (n := 2) rfl (sgs_cons (sg_name 11 sc_l_term.nd) (sgs_cons (sg_name 12 sc_l_term.nd) sgs_nil)))) (fun _ _ _ _ _ => (spt_one (st_cmp (rel_eqE (hu64 hr)) (se_name 12) (se_name 4) (nomark _)))) (fun _ _ _ _ _ => (se_name 11))) (se_lst (sa_cons (se_name 3) sa_nil) (soft_cons soft_nil))) sc_l_term.nd)
    (sss_cons (ss_if (st_not (st_val (se_is (T := "str") rfl rfl T.n_isinstance rfl T.n_str bo_str (se_name 3))))
    (sss_one (ss_set false 5 (se_add (se_name 5) (se_lc [("mate", 6)] rfl sc_l_term.nd (si_seq (se_cut (se_name 5) so_none (so_some (se_neg se_int))) (fun _ h => pi_list h) (fun _ h => pi_tup h)) (blkOk_by (N := n_l_term) (sc := defScope s_l_term) (by decide +kernel)) (by decide) (fun _ _ _ _ _ => (sg_name 6 sc_l_term.nd)) (fun _ _ _ _ _ => spt_nil) (fun _ _ _ _ _ => (se_tup (sa_cons se_str (sa_cons (se_name 6) sa_nil)) (soft_cons (soft_cons soft_nil)))))) sc_l_term.nd))
    sss_nil)
    (sss_cons (ss_set false 6 (se_ix (se_name 5) (se_call [true, false] (ok_l_take T) rfl (hr.mono (by decide)) quiet rfl T.m_l_take T.F_l_take.kp T.b_l_take (takes_of rfl rfl rfl rfl) (sa_cons (se_name 0) (sa_cons (se_fun call_lenA rfl T.n_len bo_len (sa_cons (se_name 5) sa_nil)) sa_nil)) (soft_cons (soft_cons soft_nil)))) sc_l_term.nd)
    (sss_cons (ss_set false 7 (se_call [true, false] (ok_l_take T) rfl (hr.mono (by decide)) quiet rfl T.m_l_take T.F_l_take.kp T.b_l_take (takes_of rfl rfl rfl rfl) (sa_cons (se_name 0) (sa_cons (se_ix (se_lst (sa_cons se_int (sa_cons se_int sa_nil)) (soft_cons (soft_cons soft_nil))) (se_sub (se_name 4) se_int)) sa_nil)) (soft_cons (soft_cons soft_nil))) sc_l_term.nd)
    (sss_cons (ss_set false 8 (se_ix (se_lst (sa_cons (se_tup (sa_cons (se_name 3) (sa_cons (se_name 6) sa_nil)) (soft_cons (soft_cons soft_nil))) (sa_cons (se_tup (sa_cons (se_name 6) (sa_cons (se_name 3) sa_nil)) (soft_cons (soft_cons soft_nil))) sa_nil)) (soft_cons (soft_cons soft_nil))) (se_call [true, false] (ok_l_take T) rfl (hr.mono (by decide)) quiet rfl T.m_l_take T.F_l_take.kp T.b_l_take (takes_of rfl rfl rfl rfl) (sa_cons (se_name 0) (sa_cons se_int sa_nil)) (soft_cons (soft_cons soft_nil)))) sc_l_term.nd)
    (sss_cons (ss_set false 9 (se_lst (sa_cons (se_tup (sa_cons se_str (sa_cons (se_name 3) sa_nil)) (soft_cons (soft_cons soft_nil))) (sa_cons (se_add (se_tup (sa_cons se_str sa_nil) (soft_cons soft_nil)) (se_name 8)) (sa_cons (se_add (se_tup (sa_cons se_str sa_nil) (soft_cons soft_nil)) (se_name 8)) (sa_cons (se_add (se_tup (sa_cons se_str sa_nil) (soft_cons soft_nil)) (se_name 8)) sa_nil)))) (soft_cons (soft_cons (soft_cons (soft_cons soft_nil))))) sc_l_term.nd)
    (sss_cons (ss_set false 3 (se_ix (se_add (se_name 9) (se_lst (sa_cons (se_tup (sa_cons se_str (sa_cons (se_name 3) sa_nil)) (soft_cons (soft_cons soft_nil))) (sa_cons (se_tup (sa_cons se_str (sa_cons (se_name 3) sa_nil)) (soft_cons (soft_cons soft_nil))) sa_nil)) (soft_cons (soft_cons soft_nil)))) (se_name 7)) sc_l_term.nd)
    (sss_one (ss_set false 4 (se_sub (se_name 4) (se_type call_intA rfl T.n_int bo_int (sa_cons (se_cmp (rel_eqE (hu64 hr)) (se_name 7) se_int (nomark _)) sa_nil))) sc_l_term.nd))))))))))
    (sss_one (ss_ret (se_tup (sa_cons (se_name 3) (sa_cons (se_name 4) sa_nil)) (soft_cons (soft_cons soft_nil)))))))

abbrev n_l_odd : List Str := ["pool", "some"]
theorem sc_l_odd : FnScope n_l_odd ["pool"] (defScope s_l_odd) := ⟨rfl, rfl, rfl, by decide +kernel, rfl, by decide +kernel, by decide +kernel⟩
def g_l_odd : FS := (sSeq (sSet false 1 (eLst (aCons (eD .none) (aCons (eD (.bool true)) (aCons (eD (.bool false)) (aCons (eD (.int 0)) (aCons (eD (.int 1)) (aCons (eD (.int 2)) (aCons (eD (.int 3)) (aCons (u1 negD (eD (.int 1))) (aCons (u2 powD (eD (.int 10)) (eD (.int 39))) (aCons (eD (.str "")) (aCons (eD (.str "a")) (aCons (eD (.str "not")) (aCons (eD (.str "some")) (aCons (eD (.str "abcdefghi")) (aCons (eD (.str "Ab")) (aCons (eD (.str "a b")) (aCons (eTup aNil) (aCons (eTup (aCons (eD (.str "a")) aNil)) aNil))))))))))))))))))))
    (sSeq (sSet false 1 (u2 addD (eName 1) (eLst (aCons (eLst (aCons (eD (.str "a")) (aCons (eD (.int 1)) aNil))) (aCons eDic0 (aCons (eTup (aCons (eD (.str "a")) (aCons (eD (.int 1)) aNil))) (aCons (eTup (aCons (eTup (aCons (eD (.str "a")) (aCons (eD (.int 1)) aNil))) aNil)) (aCons (eLst (aCons (eTup (aCons (eD (.str "a")) (aCons (eD (.int 1)) aNil))) aNil)) (aCons (eTup (aCons (eD (.str "a")) (aCons (eD (.bool true)) aNil))) (aCons (eTup (aCons (eD (.str "not")) aNil)) (aCons (eTup (aCons (eD (.int 1)) (aCons (eD (.int 2)) aNil))) (aCons (eTup (aCons (eTup aNil) aNil)) (aCons (eD (.str "a1")) aNil)))))))))))))
    (sRet (u2 ixD (eName 1) (eCall d_l_take [true, false] (aCons (eName 0) (aCons (un lenD (aCons (eName 1) aNil)) aNil)))))))
abbrev d_l_odd : FD := runD n_l_odd.length g_l_odd
theorem ok_l_odd (T : Txt K mg ct) : FnG P w K mg base (L2.CX P w) 2 T.a_l_odd T.fd_l_odd ["pool"] (spOf K ct (List.length (α := Str) ["pool"]) d_l_odd) := by
  refine def_ok (k := 1) (N := n_l_odd) (ps := ["pool"]) (g := g_l_odd) T.F_l_odd sc_l_odd fun cdv A outer s H E hr quiet => ?_
  exact (sss_cons (ss_set false 1 (se_lst (sa_cons se_non (sa_cons se_bl (sa_cons se_bl (sa_cons se_int (sa_cons se_int (sa_cons se_int (sa_cons se_int (sa_cons (se_neg se_int) (sa_cons (se_pow se_int se_int) (sa_cons se_str (sa_cons se_str (sa_cons se_str (sa_cons se_str (sa_cons se_str (sa_cons se_str (sa_cons se_str (sa_cons (se_tup sa_nil soft_nil) (sa_cons (se_tup (sa_cons se_str sa_nil) (soft_cons soft_nil)) sa_nil)))))))))))))))))) (soft_cons (soft_cons (soft_cons (soft_cons (soft_cons (soft_cons (soft_cons (soft_cons (soft_cons (soft_cons (soft_cons (soft_cons (soft_cons (soft_cons (soft_cons (soft_cons (soft_cons (soft_cons soft_nil))))))))))))))))))) sc_l_odd.nd)
    (sss_cons (ss_set false 1 (se_add (se_name 1) (se_lst (sa_cons (se_lst (sa_cons se_str (sa_cons se_int sa_nil)) (soft_cons (soft_cons soft_nil))) (sa_cons se_dic0 (sa_cons (se_tup (sa_cons se_str (sa_cons se_int sa_nil)) (soft_cons (soft_cons soft_nil))) (sa_cons (se_tup (sa_cons (se_tup (sa_cons se_str (sa_cons se_int sa_nil)) (soft_cons (soft_cons soft_nil))) sa_nil) (soft_cons soft_nil)) (sa_cons (se_lst (sa_cons (se_tup (sa_cons se_str (sa_cons se_int sa_nil)) (soft_cons (soft_cons soft_nil))) sa_nil) (soft_cons soft_nil)) (sa_cons (se_tup (sa_cons se_str (sa_cons se_bl sa_nil)) (soft_cons (soft_cons soft_nil))) (sa_cons (se_tup (sa_cons se_str sa_nil) (soft_cons soft_nil)) (sa_cons (se_tup (sa_cons se_int (sa_cons se_int sa_nil)) (soft_cons (soft_cons soft_nil))) (sa_cons (se_tup (sa_cons (se_tup sa_nil soft_nil) sa_nil) (soft_cons soft_nil)) (sa_cons se_str sa_nil)))))))))) (soft_cons (soft_cons (soft_cons (soft_cons (soft_cons (soft_cons (soft_cons (soft_cons (soft_cons (soft_cons soft_nil)))))))))))) sc_l_odd.nd)
    (sss_one (ss_ret (se_ix (se_name 1) (se_call [true, false] (ok_l_take T) rfl (hr.mono (by decide)) quiet rfl T.m_l_take T.F_l_take.kp T.b_l_take (takes_of rfl rfl rfl rfl) (sa_cons (se_name 0) (sa_cons (se_fun call_lenA rfl T.n_len bo_len (sa_cons (se_name 1) sa_nil)) sa_nil)) (soft_cons (soft_cons soft_nil))))))))

abbrev n_require_notions : List Str := ["thing"]
theorem sc_require_notions : FnScope n_require_notions ["thing"] (defScope s_require_notions) := ⟨rfl, rfl, rfl, by decide +kernel, rfl, by decide +kernel, by decide +kernel⟩
def g_require_notions : FS := (sIf (tNotF (tst (eCall d_is_notions [false] (aCons (eName 0) aNil))))
    (sRaise "NoNotions")
    sNext)
abbrev d_require_notions : FD := runD n_require_notions.length g_require_notions
theorem ok_require_notions (T : Txt K mg ct) : FnG P w K mg base (L2.CX P w) 3 T.a_require_notions T.fd_require_notions ["thing"] (spOf K ct (List.length (α := Str) ["thing"]) d_require_notions) := by
  refine def_ok (k := 2) (N := n_require_notions) (ps := ["thing"]) (g := g_require_notions) T.F_require_notions sc_require_notions fun cdv A outer s H E hr quiet => ?_
  exact (sss_one (ss_if (st_not (st_val (se_call [false] (ok_is_notions T) rfl (hr.mono (by decide)) quiet rfl T.m_is_notions T.F_is_notions.kp T.b_is_notions (takes_of rfl rfl rfl rfl) (sa_cons (se_name 0) sa_nil) (soft_cons soft_nil))))
    (sss_one (ss_raise "NoNotions" rfl (takes_of rfl rfl rfl rfl) PySem.F.excBase_ValueError T.x_NoNotions T.g_NoNotions T.kC_NoNotions (raises_own T.s_NoNotions T.t_NoNotions) rfl T.h_NoNotions))
    sss_nil))

abbrev n_l_notions : List Str := ["pool", "names", "name"]
theorem sc_l_notions : FnScope n_l_notions ["pool"] (defScope s_l_notions) := ⟨rfl, rfl, rfl, by decide +kernel, rfl, by decide +kernel, by decide +kernel⟩
def g_l_notions : FS := (sSeq (sSet false 1 (eCall d_l_names [true, false] (aCons (eName 0) (aCons (u2 addD (eD (.int 1)) (eCall d_l_take [true, false] (aCons (eName 0) (aCons (eD (.int 3)) aNil)))) aNil))))
    (sRet (un tupleD (aCons (eLc [2] (iSeq (eName 1)) (gN 2) tTrue (eTup (aCons (eName 2) (aCons (u2 addD (eD (.int 1)) (un intD (aCons (u2 (asB gtD) (eCall d_l_take [true, false] (aCons (eName 0) (aCons (eD (.int 3)) aNil))) (eD (.int 0))) aNil))) aNil)))) aNil))))
abbrev d_l_notions : FD := runD n_l_notions.length g_l_notions
theorem ok_l_notions (T : Txt K mg ct) : FnG P w K mg base (L2.CX P w) 3 T.a_l_notions T.fd_l_notions ["pool"] (spOf K ct (List.length (α := Str) ["pool"]) d_l_notions) := by
  refine def_ok (k := 2) (N := n_l_notions) (ps := ["pool"]) (g := g_l_notions) T.F_l_notions sc_l_notions fun cdv A outer s H E hr quiet => ?_
  exact (sss_cons (ss_set false 1 (se_call [true, false] (ok_l_names T) rfl (hr.mono (by decide)) quiet rfl T.m_l_names T.F_l_names.kp T.b_l_names (takes_of rfl rfl rfl rfl) (sa_cons (se_name 0) (sa_cons (se_add se_int (se_call [true, false] (ok_l_take T) rfl (hr.mono (by decide)) quiet rfl T.m_l_take T.F_l_take.kp T.b_l_take (takes_of rfl rfl rfl rfl) (sa_cons (se_name 0) (sa_cons se_int sa_nil)) (soft_cons (soft_cons soft_nil)))) sa_nil)) (soft_cons (soft_cons soft_nil))) sc_l_notions.nd)
    (sss_one (ss_ret (se_type call_tupleA rfl T.n_tuple bo_tuple (sa_cons (se_lc [("name", 2)] rfl sc_l_notions.nd (si_seq (se_name 1) (fun _ h => pi_list h) (fun _ h => pi_tup h)) (blkOk_by (N := n_l_notions) (sc := defScope s_l_notions) (by decide +kernel)) (by decide) (fun _ _ _ _ _ => (sg_name 2 sc_l_notions.nd)) (fun _ _ _ _ _ => spt_nil) (fun _ _ _ _ _ => (se_tup (sa_cons (se_name 2) (sa_cons (se_add se_int (se_type call_intA rfl T.n_int bo_int (sa_cons (se_cmp rel_gt (se_call [true, false] (ok_l_take T) rfl (hr.mono (by decide)) quiet rfl T.m_l_take T.F_l_take.kp T.b_l_take takes0 (sa_cons (se_name 0) (sa_cons se_int sa_nil)) (soft_cons (soft_cons soft_nil))) se_int (nomark _)) sa_nil))) sa_nil)) (soft_cons (soft_cons soft_nil))))) sa_nil)))))

abbrev n_l_about : List Str := ["pool", "notions", "term", "other", "word"]
theorem sc_l_about : FnScope n_l_about ["pool", "notions", "term"] (defScope s_l_about) := ⟨rfl, rfl, rfl, by decide +kernel, rfl, by decide +kernel, by decide +kernel⟩
def g_l_about : FS := (sSeq (sSet false 3 (u2 ixD (eCall d_l_term [true, false, false] (aCons (eName 0) (aCons (eName 1) (aCons (eD (.int 2)) aNil)))) (eD (.int 0))))
    (sSeq (sSet false 4 (u2 ixD (eLst (aCons (eD (.str "not")) (aCons (eD (.str "both")) (aCons (eD (.str "either")) (aCons (eD (.str "turned")) (aCons (eD (.str "chain")) (aCons (eD (.str "some")) aNil))))))) (eCall d_l_take [true, false] (aCons (eName 0) (aCons (eD (.int 6)) aNil)))))
    (sRet (u2 ixD (eLst (aCons (eTup (aCons (eName 4) (aCons (eName 2) aNil))) (aCons (eTup (aCons (eName 4) (aCons (eName 2) (aCons (eName 3) aNil)))) (aCons (eTup (aCons (eName 4) (aCons (eName 3) (aCons (eName 2) aNil)))) (aCons (eTup (aCons (eName 4) (aCons (eName 2) (aCons (eName 2) aNil)))) aNil))))) (eCall d_l_take [true, false] (aCons (eName 0) (aCons (eD (.int 4)) aNil)))))))
abbrev d_l_about : FD := runD n_l_about.length g_l_about
theorem ok_l_about (T : Txt K mg ct) : FnG P w K mg base (L2.CX P w) 3 T.a_l_about T.fd_l_about ["pool", "notions", "term"] (spOf K ct (List.length (α := Str) ["pool", "notions", "term"]) d_l_about) := by
  refine def_ok (k := 2) (N := n_l_about) (ps := ["pool", "notions", "term"]) (g := g_l_about) T.F_l_about sc_l_about fun cdv A outer s H E hr quiet => ?_
  exact (sss_cons (ss_set false 3 (se_ix (se_call [true, false, false] (ok_l_term T) rfl (hr.mono (by decide)) quiet rfl T.m_l_term T.F_l_term.kp T.b_l_term (takes_of rfl rfl rfl rfl) (sa_cons (se_name 0) (sa_cons (se_name 1) (sa_cons se_int sa_nil))) (soft_cons (soft_cons (soft_cons soft_nil)))) se_int) sc_l_about.nd)
    (sss_cons (ss_set false 4 (se_ix (se_lst (sa_cons se_str (sa_cons se_str (sa_cons se_str (sa_cons se_str (sa_cons se_str (sa_cons se_str sa_nil)))))) (soft_cons (soft_cons (soft_cons (soft_cons (soft_cons (soft_cons soft_nil))))))) (se_call [true, false] (ok_l_take T) rfl (hr.mono (by decide)) quiet rfl T.m_l_take T.F_l_take.kp T.b_l_take (takes_of rfl rfl rfl rfl) (sa_cons (se_name 0) (sa_cons se_int sa_nil)) (soft_cons (soft_cons soft_nil)))) sc_l_about.nd)
    (sss_one (ss_ret (se_ix (se_lst (sa_cons (se_tup (sa_cons (se_name 4) (sa_cons (se_name 2) sa_nil)) (soft_cons (soft_cons soft_nil))) (sa_cons (se_tup (sa_cons (se_name 4) (sa_cons (se_name 2) (sa_cons (se_name 3) sa_nil))) (soft_cons (soft_cons (soft_cons soft_nil)))) (sa_cons (se_tup (sa_cons (se_name 4) (sa_cons (se_name 3) (sa_cons (se_name 2) sa_nil))) (soft_cons (soft_cons (soft_cons soft_nil)))) (sa_cons (se_tup (sa_cons (se_name 4) (sa_cons (se_name 2) (sa_cons (se_name 2) sa_nil))) (soft_cons (soft_cons (soft_cons soft_nil)))) sa_nil)))) (soft_cons (soft_cons (soft_cons (soft_cons soft_nil))))) (se_call [true, false] (ok_l_take T) rfl (hr.mono (by decide)) quiet rfl T.m_l_take T.F_l_take.kp T.b_l_take (takes_of rfl rfl rfl rfl) (sa_cons (se_name 0) (sa_cons se_int sa_nil)) (soft_cons (soft_cons soft_nil))))))))

abbrev n_l_parts : List Str := ["term", "found", "part"]
theorem sc_l_parts : FnScope n_l_parts ["term"] (defScope s_l_parts) := ⟨rfl, rfl, rfl, by decide +kernel, rfl, by decide +kernel, by decide +kernel⟩
def g_l_parts (d : FD) : FS := (sSeq (sIf (tst (u1 (isD "str") (eName 0)))
    (sRet (eLst (aCons (eName 0) aNil)))
    sNext)
    (sSeq (sSet true 1 (eLst (aCons (eName 0) aNil)))
    (sSeq (sForI (iSeq (eCut (eName 0) (oInt (eD (.int 1))) oNone)) (gN 2)
    (sExpr (eExt (eName 1) (eCall d [false] (aCons (eName 2) aNil)))))
    (sRet (eName 1)))))
def d_l_parts : Nat → FD
  | 0 => fun _ => .fail
  | n + 1 => runD n_l_parts.length (g_l_parts (d_l_parts n))
theorem ok_l_parts (T : Txt K mg ct) : ∀ n : Nat, FnG P w K mg base (L2.CX P w) (0 + n) T.a_l_parts T.fd_l_parts ["term"] (spOf K ct (List.length (α := Str) ["term"]) (d_l_parts n))
  | 0 => fnG_fail
  | n + 1 => by
    show FnG P w K mg base (L2.CX P w) (0 + n + 1) T.a_l_parts T.fd_l_parts ["term"] (spOf K ct (List.length (α := Str) ["term"]) (runD n_l_parts.length (g_l_parts (d_l_parts n))))
    have ih := ok_l_parts T n
    refine def_ok (k := 0 + n) (N := n_l_parts) (ps := ["term"]) (g := g_l_parts (d_l_parts n)) T.F_l_parts sc_l_parts fun cdv A outer s H E hr quiet => ?_
    exact (sss_cons (ss_if (st_val (se_is (T := "str") rfl rfl T.n_isinstance rfl T.n_str bo_str (se_name 0)))
    (sss_one (ss_ret (se_lst (sa_cons (se_name 0) sa_nil) (soft_cons soft_nil))))
    sss_nil)
    (sss_cons (ss_set true 1 (se_lst (sa_cons (se_name 0) sa_nil) (soft_cons soft_nil)) sc_l_parts.nd)
    (sss_cons (ss_for (passes_of rfl) rfl (si_seq (se_cut (se_name 0) (so_some se_int) so_none) (fun _ h => pi_list h) (fun _ h => pi_tup h)) (sg_name 2 sc_l_parts.nd)
    (sss_one (ss_expr (se_ext (se_name 1) (se_call [false] ih rfl hr quiet rfl T.m_l_parts T.F_l_parts.kp T.b_l_parts (takes_of rfl rfl rfl rfl) (sa_cons (se_name 2) sa_nil) (soft_cons soft_nil))))))
    (sss_one (ss_ret (se_name 1))))))

abbrev n_l_text : List Str := ["term", "part"]
theorem sc_l_text : FnScope n_l_text ["term"] (defScope s_l_text) := ⟨rfl, rfl, rfl, by decide +kernel, rfl, by decide +kernel, by decide +kernel⟩
def g_l_text (d : FD) : FS := (sSeq (sIf (tst (u1 (isD "str") (eName 0)))
    (sRet (eName 0))
    sNext)
    (sRet (u1 (joinD " ") (u2 addD (eLst (aCons (u2 ixD (eName 0) (eD (.int 0))) aNil)) (eLc [1] (iSeq (eCut (eName 0) (oInt (eD (.int 1))) oNone)) (gN 1) tTrue (eCall d [false] (aCons (eName 1) aNil)))))))
def d_l_text : Nat → FD
  | 0 => fun _ => .fail
  | n + 1 => runD n_l_text.length (g_l_text (d_l_text n))
theorem ok_l_text (T : Txt K mg ct) : ∀ n : Nat, FnG P w K mg base (L2.CX P w) (0 + n) T.a_l_text T.fd_l_text ["term"] (spOf K ct (List.length (α := Str) ["term"]) (d_l_text n))
  | 0 => fnG_fail
  | n + 1 => by
    show FnG P w K mg base (L2.CX P w) (0 + n + 1) T.a_l_text T.fd_l_text ["term"] (spOf K ct (List.length (α := Str) ["term"]) (runD n_l_text.length (g_l_text (d_l_text n))))
    have ih := ok_l_text T n
    refine def_ok (k := 0 + n) (N := n_l_text) (ps := ["term"]) (g := g_l_text (d_l_text n)) T.F_l_text sc_l_text fun cdv A outer s H E hr quiet => ?_
    exact (sss_cons (ss_if (st_val (se_is (T := "str") rfl rfl T.n_isinstance rfl T.n_str bo_str (se_name 0)))
    (sss_one (ss_ret (se_name 0)))
    sss_nil)
    (sss_one (ss_ret (se_join (by decide +kernel) (se_add (se_lst (sa_cons (se_ix (se_name 0) se_int) sa_nil) (soft_cons soft_nil)) (se_lc [("part", 1)] rfl sc_l_text.nd (si_seq (se_cut (se_name 0) (so_some se_int) so_none) (fun _ h => pi_list h) (fun _ h => pi_tup h)) (blkOk_by (N := n_l_text) (sc := defScope s_l_text) (by decide +kernel)) (by decide) (fun _ _ _ _ _ => (sg_name 1 sc_l_text.nd)) (fun _ _ _ _ _ => spt_nil) (fun _ _ _ _ _ => (se_call [false] ih rfl hr quiet rfl T.m_l_text T.F_l_text.kp T.b_l_text takes0 (sa_cons (se_name 1) sa_nil) (soft_cons soft_nil)))))))))

abbrev n_l_places : List Str := ["notions", "thing", "left", "word", "own", "part"]
theorem sc_l_places : FnScope n_l_places ["notions", "thing", "left"] (defScope s_l_places) := ⟨rfl, rfl, rfl, by decide +kernel, rfl, by decide +kernel, by decide +kernel⟩
def g_l_places (d : FD) : FS := (sSeq (sIf (tst (u1 (isD "str") (eName 1)))
    (sRet (eGet (un dictD (aCons (eName 0) aNil)) (eName 1) (eD (.int 0))))
    sNext)
    (sSeq (sIf (tOrF (t2 eqE (eName 2) (eD (.int 0))) (tOrF (tNotF (tst (u1 (isD "tuple") (eName 1)))) (tOrF (t2 eqE (eName 1) (eTup aNil)) (tNotF (tst (u1 (isD "str") (u2 ixD (eName 1) (eD (.int 0)))))))))
    (sRet (eD (.int 0)))
    sNext)
    (sSeq (sPar 3 4 (aCons (u2 ixD (eName 1) (eD (.int 0))) (aCons (eLc [5] (iSeq (eCut (eName 1) (oInt (eD (.int 1))) oNone)) (gN 5) tTrue (eCall d [false, false, false] (aCons (eName 0) (aCons (eName 5) (aCons (u2 subD (eName 2) (eD (.int 1))) aNil))))) aNil)))
    (sSeq (sIf (t2 inD (eD (.int 0)) (eName 4))
    (sRet (eD (.int 0)))
    sNext)
    (sSeq (sIf (t2 inX (eName 3) (eTup (aCons (eD (.str "turned")) (aCons (eD (.str "some")) aNil))))
    (sRet (eIf (t2 eqE (eName 4) (eLst (aCons (eD (.int 2)) aNil))) (u2 ixD (eLst (aCons (eD (.int 2)) (aCons (eD (.int 1)) aNil))) (un intD (aCons (u2 (asB eqX) (eName 3) (eD (.str "some"))) aNil))) (eD (.int 0))))
    sNext)
    (sSeq (sIf (t2 eqX (eName 3) (eD (.str "chain")))
    (sRet (eIf (t2 eqE (eName 4) (eLst (aCons (eD (.int 2)) (aCons (eD (.int 2)) aNil)))) (eD (.int 2)) (eD (.int 0))))
    sNext)
    (sSeq (sIf (t2 eqX (eName 3) (eD (.str "not")))
    (sRet (eIf (t2 eqE (un lenD (aCons (eName 4) aNil)) (eD (.int 1))) (u2 ixD (eName 4) (eD (.int 0))) (eD (.int 0))))
    sNext)
    (sRet (eIf (tAndF (t2 inX (eName 3) (eTup (aCons (eD (.str "both")) (aCons (eD (.str "either")) aNil)))) (t2 inX (eName 4) (eTup (aCons (eLst (aCons (eD (.int 1)) (aCons (eD (.int 1)) aNil))) (aCons (eLst (aCons (eD (.int 2)) (aCons (eD (.int 2)) aNil))) aNil))))) (u2 ixD (eName 4) (eD (.int 0))) (eD (.int 0)))))))))))
def d_l_places : Nat → FD
  | 0 => fun _ => .fail
  | n + 1 => runD n_l_places.length (g_l_places (d_l_places n))
theorem ok_l_places (T : Txt K mg ct) : ∀ n : Nat, FnG P w K mg base (L2.CX P w) (0 + n) T.a_l_places T.fd_l_places ["notions", "thing", "left"] (spOf K ct (List.length (α := Str) ["notions", "thing", "left"]) (d_l_places n))
  | 0 => fnG_fail
  | n + 1 => by
    show FnG P w K mg base (L2.CX P w) (0 + n + 1) T.a_l_places T.fd_l_places ["notions", "thing", "left"] (spOf K ct (List.length (α := Str) ["notions", "thing", "left"]) (runD n_l_places.length (g_l_places (d_l_places n))))
    have ih := ok_l_places T n
    refine def_ok (k := 0 + n) (N := n_l_places) (ps := ["notions", "thing", "left"]) (g := g_l_places (d_l_places n)) T.F_l_places sc_l_places fun cdv A outer s H E hr quiet => ?_
    exact (sss_cons (ss_if (st_val (se_is (T := "str") rfl rfl T.n_isinstance rfl T.n_str bo_str (se_name 1)))
    (sss_one (ss_ret (se_get (hu1 hr) (se_type (call_dictA rfl) rfl T.n_dict bo_dict (sa_cons (se_name 0) sa_nil)) (se_name 1) se_int ⟨rfl, rfl, rfl, rfl⟩)))
    sss_nil)
    (sss_cons (ss_if (st_w (sw_or (st_cmp (rel_eqE (hu64 hr)) (se_name 2) se_int (nomark _)) (sw_or (st_not (st_val (se_is (T := "tuple") rfl rfl T.n_isinstance rfl T.n_tuple bo_tuple (se_name 1)))) (sw_or (st_cmp (rel_eqE (hu64 hr)) (se_name 1) (se_tup sa_nil soft_nil) (nomark _)) (sw_or1 (st_not (st_val (se_is (T := "str") rfl rfl T.n_isinstance rfl T.n_str bo_str (se_ix (se_name 1) se_int)))))))))
    (sss_one (ss_ret se_int))
    sss_nil)
    (sss_cons (ss_par (i := 3) (j := 4) rfl sc_l_places.nd (sa_cons (se_ix (se_name 1) se_int) (sa_cons (se_lc [("part", 5)] rfl sc_l_places.nd (si_seq (se_cut (se_name 1) (so_some se_int) so_none) (fun _ h => pi_list h) (fun _ h => pi_tup h)) (blkOk_by (N := n_l_places) (sc := defScope s_l_places) (by decide +kernel)) (by decide) (fun _ _ _ _ _ => (sg_name 5 sc_l_places.nd)) (fun _ _ _ _ _ => spt_nil) (fun _ _ _ _ _ => (se_call [false, false, false] ih rfl hr quiet rfl T.m_l_places T.F_l_places.kp T.b_l_places takes0 (sa_cons (se_name 0) (sa_cons (se_name 5) (sa_cons (se_sub (se_name 2) se_int) sa_nil))) (soft_cons (soft_cons (soft_cons soft_nil)))))) sa_nil)) (soft_cons (soft_cons soft_nil)))
    (sss_cons (ss_if (st_cmp (rel_in (hu65 hr)) se_int (se_name 4) rfl)
    (sss_one (ss_ret se_int))
    sss_nil)
    (sss_cons (ss_if (st_cmp (rel_inX (hu65 hr)) (se_name 3) (se_tup (sa_cons se_str (sa_cons se_str sa_nil)) (soft_cons (soft_cons soft_nil))) rfl)
    (sss_one (ss_ret (se_if (st_cmp (rel_eqE (hu64 hr)) (se_name 4) (se_lst (sa_cons se_int sa_nil) (soft_cons soft_nil)) (nomark _)) (se_ix (se_lst (sa_cons se_int (sa_cons se_int sa_nil)) (soft_cons (soft_cons soft_nil))) (se_type call_intA rfl T.n_int bo_int (sa_cons (se_cmp (rel_eqX (hu64 hr)) (se_name 3) se_str (nomark _)) sa_nil))) se_int)))
    sss_nil)
    (sss_cons (ss_if (st_cmp (rel_eqX (hu64 hr)) (se_name 3) se_str (nomark _))
    (sss_one (ss_ret (se_if (st_cmp (rel_eqE (hu64 hr)) (se_name 4) (se_lst (sa_cons se_int (sa_cons se_int sa_nil)) (soft_cons (soft_cons soft_nil))) (nomark _)) se_int se_int)))
    sss_nil)
    (sss_cons (ss_if (st_cmp (rel_eqX (hu64 hr)) (se_name 3) se_str (nomark _))
    (sss_one (ss_ret (se_if (st_cmp (rel_eqE (hu64 hr)) (se_fun call_lenA rfl T.n_len bo_len (sa_cons (se_name 4) sa_nil)) se_int (nomark _)) (se_ix (se_name 4) se_int) se_int)))
    sss_nil)
    (sss_one (ss_ret (se_if (st_w (sw_and (st_cmp (rel_inX (hu65 hr)) (se_name 3) (se_tup (sa_cons se_str (sa_cons se_str sa_nil)) (soft_cons (soft_cons soft_nil))) rfl) (sw_and1 (st_cmp (rel_inX (hu65 hr)) (se_name 4) (se_tup (sa_cons (se_lst (sa_cons se_int (sa_cons se_int sa_nil)) (soft_cons (soft_cons soft_nil))) (sa_cons (se_lst (sa_cons se_int (sa_cons se_int sa_nil)) (soft_cons (soft_cons soft_nil))) sa_nil)) (soft_cons (soft_cons soft_nil))) rfl)))) (se_ix (se_name 4) se_int) se_int))))))))))

abbrev n_enter_term : List Str := ["names", "found", "thing", "tuples", "text", "places", "behind"]
theorem sc_enter_term : FnScope n_enter_term ["names", "found", "thing", "tuples"] (defScope s_enter_term) := ⟨rfl, rfl, rfl, by decide +kernel, rfl, by decide +kernel, by decide +kernel⟩
def g_enter_term (d : FD) : FS := (sSeq (sIf (tst (u1 (tyIsD "str") (eName 2)))
    (sSeq (sIf (t2 notInK (eName 2) (eName 0))
    (sRet (eD (.str "")))
    sNext)
    (sSeq (sSetKey (eTup (aCons (eName 2) (aCons (u2 keyD2 (eName 0) (eName 2)) aNil))) (eName 1) (eName 2))
    (sRet (eName 2))))
    sNext)
    (sSeq (sIf (tOrF (tst (u1 (tyNotD "tuple") (eName 2))) (tOrF (t2 eqE (eName 3) (eD (.int 0))) (t2 notInD (un lenD (aCons (eName 2) aNil)) (eTup (aCons (eD (.int 2)) (aCons (eD (.int 3)) aNil))))))
    (sRet (eD (.str "")))
    sNext)
    (sSeq (sSet false 4 (eCall d [false, true, false, false] (aCons (eName 0) (aCons (eName 1) (aCons (u2 ixD (eName 2) (eD (.int 1))) (aCons (u2 subD (eName 3) (eD (.int 1))) aNil))))))
    (sSeq (sIf (t2 eqX (eName 4) (eD (.str "")))
    (sRet (eD (.str "")))
    sNext)
    (sSeq (sIf (t2 eqE (un lenD (aCons (eName 2) aNil)) (eD (.int 2)))
    (sSet false 5 (eCall d_places_of_one [false, false] (aCons (u2 ixD (eName 2) (eD (.int 0))) (aCons (u2 ixD (u2 keyD2 (eName 1) (eName 4)) (eD (.int 1))) aNil))))
    (sSeq (sSet false 6 (eCall d [false, true, false, false] (aCons (eName 0) (aCons (eName 1) (aCons (u2 ixD (eName 2) (eD (.int 2))) (aCons (u2 subD (eName 3) (eD (.int 1))) aNil))))))
    (sSeq (sIf (t2 eqX (eName 6) (eD (.str "")))
    (sRet (eD (.str "")))
    sNext)
    (sSeq (sSet false 5 (eCall d_places_of_two [false, false, false] (aCons (u2 ixD (eName 2) (eD (.int 0))) (aCons (u2 ixD (u2 keyD2 (eName 1) (eName 4)) (eD (.int 1))) (aCons (u2 ixD (u2 keyD2 (eName 1) (eName 6)) (eD (.int 1))) aNil)))))
    (sSet false 4 ((jCons (u1 fmtD (eName 4)) (jCons (eD (.str " ")) (jCons (u1 fmtD (eName 6)) jNil))) Str.empty))))))
    (sSeq (sIf (t2 eqE (eName 5) (eD (.int 0)))
    (sRet (eD (.str "")))
    sNext)
    (sSeq (sSet false 4 ((jCons (u1 fmtD (u2 ixD (eName 2) (eD (.int 0)))) (jCons (eD (.str " ")) (jCons (u1 fmtD (eName 4)) jNil))) Str.empty))
    (sSeq (sSetKey (eTup (aCons (eName 2) (aCons (eName 5) aNil))) (eName 1) (eName 4))
    (sRet (eName 4))))))))))
def d_enter_term : Nat → FD
  | 0 => fun _ => .fail
  | n + 1 => runD n_enter_term.length (g_enter_term (d_enter_term n))
theorem ok_enter_term (T : Txt K mg ct) : ∀ n : Nat, FnG P w K mg base (L2.CX P w) (1 + n) T.a_enter_term T.fd_enter_term ["names", "found", "thing", "tuples"] (spOf K ct (List.length (α := Str) ["names", "found", "thing", "tuples"]) (d_enter_term n))
  | 0 => fnG_fail
  | n + 1 => by
    show FnG P w K mg base (L2.CX P w) (1 + n + 1) T.a_enter_term T.fd_enter_term ["names", "found", "thing", "tuples"] (spOf K ct (List.length (α := Str) ["names", "found", "thing", "tuples"]) (runD n_enter_term.length (g_enter_term (d_enter_term n))))
    have ih := ok_enter_term T n
    refine def_okV (k := 1 + n) (N := n_enter_term) (ps := ["names", "found", "thing", "tuples"]) (g := g_enter_term (d_enter_term n)) T.F_enter_term sc_enter_term fun cdv A outer s H E hr quiet => ?_
    exact (sss_cons (ss_if (st_tyIs (T := "str") rfl rfl T.n_type rfl T.n_str bo_str (se_name 2))
    (sss_cons (ss_if (st_cmp (rel_notInK (hu1 hr)) (se_name 2) (se_name 0) rfl)
    (sss_one (ss_ret se_str))
    sss_nil)
    (sss_cons (ss_setKey (hu1 hr) (se_tup (sa_cons (se_name 2) (sa_cons (se_key (hu1 hr) (se_name 0) (se_name 2)) sa_nil)) (soft_cons (soft_cons soft_nil))) (se_name 1) (se_name 2))
    (sss_one (ss_ret (se_name 2)))))
    sss_nil)
    (sss_cons (ss_if (st_w (sw_or (st_tyNot (T := "tuple") rfl rfl T.n_type rfl T.n_tuple bo_tuple (se_name 2)) (sw_or (st_cmp (rel_eqE (hu64 hr)) (se_name 3) se_int (nomark _)) (sw_or1 (st_cmp (rel_notIn (hu65 hr)) (se_fun call_lenA rfl T.n_len bo_len (sa_cons (se_name 2) sa_nil)) (se_tup (sa_cons se_int (sa_cons se_int sa_nil)) (soft_cons (soft_cons soft_nil))) rfl)))))
    (sss_one (ss_ret se_str))
    sss_nil)
    (sss_cons (ss_set false 4 (se_call [false, true, false, false] ih rfl hr quiet rfl T.m_enter_term T.F_enter_term.kp T.b_enter_term (takes_of rfl rfl rfl rfl) (sa_cons (se_name 0) (sa_cons (se_name 1) (sa_cons (se_ix (se_name 2) se_int) (sa_cons (se_sub (se_name 3) se_int) sa_nil)))) (soft_cons (soft_cons (soft_cons (soft_cons soft_nil))))) sc_enter_term.nd)
    (sss_cons (ss_if (st_cmp (rel_eqX (hu64 hr)) (se_name 4) se_str (nomark _))
    (sss_one (ss_ret se_str))
    sss_nil)
    (sss_cons (ss_if (st_cmp (rel_eqE (hu64 hr)) (se_fun call_lenA rfl T.n_len bo_len (sa_cons (se_name 2) sa_nil)) se_int (nomark _))
    (sss_one (ss_set false 5 (se_call [false, false] (ok_places_of_one T) rfl (hr.mono (by show _ ≤ 1 + n; omega)) quiet rfl T.m_places_of_one T.F_places_of_one.kp T.b_places_of_one (takes_of rfl rfl rfl rfl) (sa_cons (se_ix (se_name 2) se_int) (sa_cons (se_ix (se_key (hu1 hr) (se_name 1) (se_name 4)) se_int) sa_nil)) (soft_cons (soft_cons soft_nil))) sc_enter_term.nd))
    (sss_cons (ss_set false 6 (se_call [false, true, false, false] ih rfl hr quiet rfl T.m_enter_term T.F_enter_term.kp T.b_enter_term (takes_of rfl rfl rfl rfl) (sa_cons (se_name 0) (sa_cons (se_name 1) (sa_cons (se_ix (se_name 2) se_int) (sa_cons (se_sub (se_name 3) se_int) sa_nil)))) (soft_cons (soft_cons (soft_cons (soft_cons soft_nil))))) sc_enter_term.nd)
    (sss_cons (ss_if (st_cmp (rel_eqX (hu64 hr)) (se_name 6) se_str (nomark _))
    (sss_one (ss_ret se_str))
    sss_nil)
    (sss_cons (ss_set false 5 (se_call [false, false, false] (ok_places_of_two T) rfl (hr.mono (by show _ ≤ 1 + n; omega)) quiet rfl T.m_places_of_two T.F_places_of_two.kp T.b_places_of_two (takes_of rfl rfl rfl rfl) (sa_cons (se_ix (se_name 2) se_int) (sa_cons (se_ix (se_key (hu1 hr) (se_name 1) (se_name 4)) se_int) (sa_cons (se_ix (se_key (hu1 hr) (se_name 1) (se_name 6)) se_int) sa_nil))) (soft_cons (soft_cons (soft_cons soft_nil)))) sc_enter_term.nd)
    (sss_one (ss_set false 4 (se_joined (sj_cons (se_fmt (se_name 4)) (sj_cons se_str (sj_cons (se_fmt (se_name 6)) sj_nil)))) sc_enter_term.nd))))))
    (sss_cons (ss_if (st_cmp (rel_eqE (hu64 hr)) (se_name 5) se_int (nomark _))
    (sss_one (ss_ret se_str))
    sss_nil)
    (sss_cons (ss_set false 4 (se_joined (sj_cons (se_fmt (se_ix (se_name 2) se_int)) (sj_cons se_str (sj_cons (se_fmt (se_name 4)) sj_nil)))) sc_enter_term.nd)
    (sss_cons (ss_setKey (hu1 hr) (se_tup (sa_cons (se_name 2) (sa_cons (se_name 5) sa_nil)) (soft_cons (soft_cons soft_nil))) (se_name 1) (se_name 4))
    (sss_one (ss_ret (se_name 4)))))))))))

abbrev n_l_due_parts : List Str := ["term", "found", "part", "text"]
theorem sc_l_due_parts : FnScope n_l_due_parts ["term"] (defScope s_l_due_parts) := ⟨rfl, rfl, rfl, by decide +kernel, rfl, by decide +kernel, by decide +kernel⟩
def g_l_due_parts : FS := (sSeq (sSet true 1 eDic0)
    (sSeq (sForI (iSeq (eCall (d_l_parts 5) [false] (aCons (eName 0) aNil))) (gN 2)
    (sSetKey (eName 2) (eName 1) (eCall (d_l_text 5) [false] (aCons (eName 2) aNil))))
    (sRet (un tupleD (aCons (eLc [3] (iSeq (un sortedDD (aCons (eName 1) aNil))) (gN 3) tTrue (u2 keyD2 (eName 1) (eName 3))) aNil)))))
abbrev d_l_due_parts : FD := runD n_l_due_parts.length g_l_due_parts
theorem ok_l_due_parts (T : Txt K mg ct) : FnG P w K mg base (L2.CX P w) 6 T.a_l_due_parts T.fd_l_due_parts ["term"] (spOf K ct (List.length (α := Str) ["term"]) d_l_due_parts) := by
  refine def_ok (k := 5) (N := n_l_due_parts) (ps := ["term"]) (g := g_l_due_parts) T.F_l_due_parts sc_l_due_parts fun cdv A outer s H E hr quiet => ?_
  exact (sss_cons (ss_set true 1 se_dic0 sc_l_due_parts.nd)
    (sss_cons (ss_for (passes_of rfl) rfl (si_seq (se_call [false] (ok_l_parts T 5) rfl (hr.mono (by decide)) quiet rfl T.m_l_parts T.F_l_parts.kp T.b_l_parts (takes_of rfl rfl rfl rfl) (sa_cons (se_name 0) sa_nil) (soft_cons soft_nil)) (fun _ h => pi_list h) (fun _ h => pi_tup h)) (sg_name 2 sc_l_due_parts.nd)
    (sss_one (ss_setKey (hu1 hr) (se_name 2) (se_name 1) (se_call [false] (ok_l_text T 5) rfl (hr.mono (by decide)) quiet rfl T.m_l_text T.F_l_text.kp T.b_l_text (takes_of rfl rfl rfl rfl) (sa_cons (se_name 2) sa_nil) (soft_cons soft_nil)))))
    (sss_one (ss_ret (se_type call_tupleA rfl T.n_tuple bo_tuple (sa_cons (se_lc [("text", 3)] rfl sc_l_due_parts.nd (si_seq (se_fun (call_sortedA rfl) rfl T.n_sorted bo_sorted (sa_cons (se_name 1) sa_nil)) (fun _ h => pi_list h) (fun _ h => pi_tup h)) (blkOk_by (N := n_l_due_parts) (sc := defScope s_l_due_parts) (by decide +kernel)) (by decide) (fun _ _ _ _ _ => (sg_name 3 sc_l_due_parts.nd)) (fun _ _ _ _ _ => spt_nil) (fun _ _ _ _ _ => (se_key (hu1 hr) (se_name 1) (se_name 3)))) sa_nil))))))

abbrev n_parts_within : List Str := ["notions", "thing", "found", "text", "name", "places"]
theorem sc_parts_within : FnScope n_parts_within ["notions", "thing"] (defScope s_parts_within) := ⟨rfl, rfl, rfl, by decide +kernel, rfl, by decide +kernel, by decide +kernel⟩
def g_parts_within : FS := (sSeq (sSet true 2 eDic0)
    (sSeq (sSet false 3 (eCall (d_enter_term 5) [false, true, false, false] (aDfl (aCons (eDc [4, 5] (iSeq (eName 0)) (gT 2 (gCons' (gN 4) (gCons' (gN 5) gNil'))) tTrue (eName 4) (eName 5)) (aCons (eName 2) (aCons (eName 1) aNil))) [.int 3])))
    (sRet (eTup (aCons (eName 3) (aCons (eName 2) aNil))))))
abbrev d_parts_within : FD := runD n_parts_within.length g_parts_within
theorem ok_parts_within (T : Txt K mg ct) : FnG P w K mg base (L2.CX P w) 7 T.a_parts_within T.fd_parts_within ["notions", "thing"] (spOf K ct (List.length (α := Str) ["notions", "thing"]) d_parts_within) := by
  refine def_ok (k := 6) (N := n_parts_within) (ps := ["notions", "thing"]) (g := g_parts_within) T.F_parts_within sc_parts_within fun cdv A outer s H E hr quiet => ?_
  exact (sss_cons (ss_set true 2 se_dic0 sc_parts_within.nd)
    (sss_cons (ss_set false 3 (se_callD (dvs := [.int 3]) (ds := [.int 3]) [false, true, false, false] (ok_enter_term T 5) rfl (hr.mono (by decide)) quiet rfl T.m_enter_term T.F_enter_term.kp T.bd_enter_term (.cons ⟨_, rfl⟩ .nil) (fun _ => (.cons (fun _ _ => .int 3) .nil)) (takes_of rfl rfl rfl rfl) (sa_cons (se_dc [("name", 4), ("places", 5)] rfl sc_parts_within.nd (si_seq (se_name 0) (fun _ h => pi_list h) (fun _ h => pi_tup h)) (blkOk_by (N := n_parts_within) (sc := defScope s_parts_within) (by decide +kernel)) (by decide) (fun _ _ _ _ _ => (sg_tup (n := 2) rfl (sgs_cons (sg_name 4 sc_parts_within.nd) (sgs_cons (sg_name 5 sc_parts_within.nd) sgs_nil)))) (fun _ _ _ _ _ => spt_nil) (fun _ _ _ _ _ => (se_name 4)) (fun _ _ _ _ _ => (se_name 5))) (sa_cons (se_name 2) (sa_cons (se_name 1) sa_nil))) (soft_cons (soft_cons (soft_cons soft_nil)))) sc_parts_within.nd)
    (sss_one (ss_ret (se_tup (sa_cons (se_name 3) (sa_cons (se_name 2) sa_nil)) (soft_cons (soft_cons soft_nil)))))))

abbrev n_l_spoilt : List Str := ["pool", "thing", "deep", "way", "at", "odd", "inner", "some"]
theorem sc_l_spoilt : FnScope n_l_spoilt ["pool", "thing", "deep"] (defScope s_l_spoilt) := ⟨rfl, rfl, rfl, by decide +kernel, rfl, by decide +kernel, by decide +kernel⟩
def g_l_spoilt (d : FD) : FS := (sSeq (sSet false 3 (eCall d_l_take [true, false] (aCons (eName 0) (aCons (eD (.int 10)) aNil))))
    (sSeq (sSet false 4 (eD (.int 0)))
    (sSeq (sIf (tAndF (tst (u1 (isD "tuple") (eName 1))) (t2 neE (eName 1) (eTup aNil)))
    (sSet false 4 (eCall d_l_take [true, false] (aCons (eName 0) (aCons (un lenD (aCons (eName 1) aNil)) aNil))))
    sNext)
    (sSeq (sSet false 5 (eCall d_l_odd [true] (aCons (eName 0) aNil)))
    (sSeq (sIf (tOrF (t2 eqE (eName 2) (eD (.int 0))) (tOrF (tNotF (tst (u1 (isD "tuple") (eName 1)))) (t2 eqE (eName 1) (eTup aNil))))
    (sSeq (sIf (tAndF (tst (u1 (isD "str") (eName 1))) (t2 ltD (eName 3) (eD (.int 6))))
    (sRet (u2 ixD (eLst (aCons (u2 addD (eName 1) (eD (.str "a"))) (aCons (eCut (eName 1) (oInt (eD (.int 1))) oNone) (aCons (eCut3 (eName 1) oNone oNone (oInt (u1 negD (eD (.int 1))))) (aCons (u2 addD (eName 1) (eD (.str "Z"))) (aCons (u2 addD (eName 1) (eD (.str " "))) (aCons (u2 addD (eD (.str "z")) (eCut (eName 1) oNone (oInt (eD (.int 7))))) aNil))))))) (eName 3)))
    sNext)
    (sSeq (sIf (tAndF (tst (u1 (isD "int") (eName 1))) (tAndF (tNotF (tst (u1 (isD "bool") (eName 1)))) (t2 ltD (eName 3) (eD (.int 6)))))
    (sRet (u2 ixD (eLst (aCons (u2 addD (eName 1) (eD (.int 1))) (aCons (u2 subD (eName 1) (eD (.int 1))) (aCons (u2 (asB eqE) (eName 1) (eD (.int 1))) (aCons (un strD (aCons (eName 1) aNil)) (aCons (u2 subD (eD (.int 3)) (eName 1)) (aCons (eD (.int 2)) aNil))))))) (eName 3)))
    sNext)
    (sRet (eName 5))))
    sNext)
    (sSeq (sIf (t2 ltD (eName 3) (eD (.int 6)))
    (sSeq (sSet false 6 (eCall d [true, false, false] (aCons (eName 0) (aCons (u2 ixD (eName 1) (eName 4)) (aCons (u2 subD (eName 2) (eD (.int 1))) aNil)))))
    (sRet (u2 addD (u2 addD (eCut (eName 1) oNone (oInt (eName 4))) (eTup (aCons (eName 6) aNil))) (eCut (eName 1) (oInt (u2 addD (eName 4) (eD (.int 1)))) oNone))))
    sNext)
    (sSeq (sSet false 7 (eLst (aCons (u2 addD (eCut (eName 1) oNone (oInt (eName 4))) (eCut (eName 1) (oInt (u2 addD (eName 4) (eD (.int 1)))) oNone)) (aCons (u2 addD (eCut (eName 1) oNone (oInt (u2 addD (eName 4) (eD (.int 1))))) (eCut (eName 1) (oInt (eName 4)) oNone)) (aCons (un listD (aCons (eName 1) aNil)) (aCons (eCut3 (eName 1) oNone oNone (oInt (u1 negD (eD (.int 1))))) aNil))))))
    (sRet (u2 ixD (eName 7) (u2 subD (eName 3) (eD (.int 6))))))))))))
def d_l_spoilt : Nat → FD
  | 0 => fun _ => .fail
  | n + 1 => runD n_l_spoilt.length (g_l_spoilt (d_l_spoilt n))
theorem ok_l_spoilt (T : Txt K mg ct) : ∀ n : Nat, FnG P w K mg base (L2.CX P w) (2 + n) T.a_l_spoilt T.fd_l_spoilt ["pool", "thing", "deep"] (spOf K ct (List.length (α := Str) ["pool", "thing", "deep"]) (d_l_spoilt n))
  | 0 => fnG_fail
  | n + 1 => by
    show FnG P w K mg base (L2.CX P w) (2 + n + 1) T.a_l_spoilt T.fd_l_spoilt ["pool", "thing", "deep"] (spOf K ct (List.length (α := Str) ["pool", "thing", "deep"]) (runD n_l_spoilt.length (g_l_spoilt (d_l_spoilt n))))
    have ih := ok_l_spoilt T n
    refine def_ok (k := 2 + n) (N := n_l_spoilt) (ps := ["pool", "thing", "deep"]) (g := g_l_spoilt (d_l_spoilt n)) T.F_l_spoilt sc_l_spoilt fun cdv A outer s H E hr quiet => ?_
    exact (sss_cons (ss_set false 3 (se_call [true, false] (ok_l_take T) rfl (hr.mono (by show _ ≤ 2 + n; omega)) quiet rfl T.m_l_take T.F_l_take.kp T.b_l_take (takes_of rfl rfl rfl rfl) (sa_cons (se_name 0) (sa_cons se_int sa_nil)) (soft_cons (soft_cons soft_nil))) sc_l_spoilt.nd)
    (sss_cons (ss_set false 4 se_int sc_l_spoilt.nd)
    (sss_cons (ss_if (st_w (sw_and (st_val (se_is (T := "tuple") rfl rfl T.n_isinstance rfl T.n_tuple bo_tuple (se_name 1))) (sw_and1 (st_cmp (rel_neE (hu64 hr)) (se_name 1) (se_tup sa_nil soft_nil) (nomark _)))))
    (sss_one (ss_set false 4 (se_call [true, false] (ok_l_take T) rfl (hr.mono (by show _ ≤ 2 + n; omega)) quiet rfl T.m_l_take T.F_l_take.kp T.b_l_take (takes_of rfl rfl rfl rfl) (sa_cons (se_name 0) (sa_cons (se_fun call_lenA rfl T.n_len bo_len (sa_cons (se_name 1) sa_nil)) sa_nil)) (soft_cons (soft_cons soft_nil))) sc_l_spoilt.nd))
    sss_nil)
    (sss_cons (ss_set false 5 (se_call [true] (ok_l_odd T) rfl (hr.mono (by show _ ≤ 2 + n; omega)) quiet rfl T.m_l_odd T.F_l_odd.kp T.b_l_odd (takes_of rfl rfl rfl rfl) (sa_cons (se_name 0) sa_nil) (soft_cons soft_nil)) sc_l_spoilt.nd)
    (sss_cons (ss_if (st_w (sw_or (st_cmp (rel_eqE (hu64 hr)) (se_name 2) se_int (nomark _)) (sw_or (st_not (st_val (se_is (T := "tuple") rfl rfl T.n_isinstance rfl T.n_tuple bo_tuple (se_name 1)))) (sw_or1 (st_cmp (rel_eqE (hu64 hr)) (se_name 1) (se_tup sa_nil soft_nil) (nomark _))))))
    (sss_cons (ss_if (st_w (sw_and (st_val (se_is (T := "str") rfl rfl T.n_isinstance rfl T.n_str bo_str (se_name 1))) (sw_and1 (st_cmp rel_lt (se_name 3) se_int (nomark _)))))
    (sss_one (ss_ret (se_ix (se_lst (sa_cons (se_add (se_name 1) se_str) (sa_cons (se_cut (se_name 1) (so_some se_int) so_none) (sa_cons (se_cut3 (se_name 1) so_none so_none (so_some (se_neg se_int))) (sa_cons (se_add (se_name 1) se_str) (sa_cons (se_add (se_name 1) se_str) (sa_cons (se_add se_str (se_cut (se_name 1) so_none (so_some se_int))) sa_nil)))))) (soft_cons (soft_cons (soft_cons (soft_cons (soft_cons (soft_cons soft_nil))))))) (se_name 3))))
    sss_nil)
    (sss_cons (ss_if (st_w (sw_and (st_val (se_is (T := "int") rfl rfl T.n_isinstance rfl T.n_int bo_int (se_name 1))) (sw_and (st_not (st_val (se_is (T := "bool") rfl rfl T.n_isinstance rfl T.n_bool bo_bool (se_name 1)))) (sw_and1 (st_cmp rel_lt (se_name 3) se_int (nomark _))))))
    (sss_one (ss_ret (se_ix (se_lst (sa_cons (se_add (se_name 1) se_int) (sa_cons (se_sub (se_name 1) se_int) (sa_cons (se_cmp (rel_eqE (hu64 hr)) (se_name 1) se_int (nomark _)) (sa_cons (se_type call_strA rfl T.n_str bo_str (sa_cons (se_name 1) sa_nil)) (sa_cons (se_sub se_int (se_name 1)) (sa_cons se_int sa_nil)))))) (soft_cons (soft_cons (soft_cons (soft_cons (soft_cons (soft_cons soft_nil))))))) (se_name 3))))
    sss_nil)
    (sss_one (ss_ret (se_name 5)))))
    sss_nil)
    (sss_cons (ss_if (st_cmp rel_lt (se_name 3) se_int (nomark _))
    (sss_cons (ss_set false 6 (se_call [true, false, false] ih rfl hr quiet rfl T.m_l_spoilt T.F_l_spoilt.kp T.b_l_spoilt (takes_of rfl rfl rfl rfl) (sa_cons (se_name 0) (sa_cons (se_ix (se_name 1) (se_name 4)) (sa_cons (se_sub (se_name 2) se_int) sa_nil))) (soft_cons (soft_cons (soft_cons soft_nil)))) sc_l_spoilt.nd)
    (sss_one (ss_ret (se_add (se_add (se_cut (se_name 1) so_none (so_some (se_name 4))) (se_tup (sa_cons (se_name 6) sa_nil) (soft_cons soft_nil))) (se_cut (se_name 1) (so_some (se_add (se_name 4) se_int)) so_none)))))
    sss_nil)
    (sss_cons (ss_set false 7 (se_lst (sa_cons (se_add (se_cut (se_name 1) so_none (so_some (se_name 4))) (se_cut (se_name 1) (so_some (se_add (se_name 4) se_int)) so_none)) (sa_cons (se_add (se_cut (se_name 1) so_none (so_some (se_add (se_name 4) se_int))) (se_cut (se_name 1) (so_some (se_name 4)) so_none)) (sa_cons (se_type call_listA rfl T.n_list bo_list (sa_cons (se_name 1) sa_nil)) (sa_cons (se_cut3 (se_name 1) so_none so_none (so_some (se_neg se_int))) sa_nil)))) (soft_cons (soft_cons (soft_cons (soft_cons soft_nil))))) sc_l_spoilt.nd)
    (sss_one (ss_ret (se_ix (se_name 7) (se_sub (se_name 3) se_int)))))))))))

abbrev n_is_term : List Str := ["notions", "thing"]
theorem sc_is_term : FnScope n_is_term ["notions", "thing"] (defScope s_is_term) := ⟨rfl, rfl, rfl, by decide +kernel, rfl, by decide +kernel, by decide +kernel⟩
def g_is_term : FS := (sSeq (sExpr (eCall d_require_notions [false] (aCons (eName 0) aNil)))
    (sRet (u2 (asB neE) (u2 ixD (eCall d_parts_within [false, false] (aCons (eName 0) (aCons (eName 1) aNil))) (eD (.int 0))) (eD (.str "")))))
abbrev d_is_term : FD := runD n_is_term.length g_is_term
theorem ok_is_term (T : Txt K mg ct) : FnG P w K mg base (L2.CX P w) 8 T.a_is_term T.fd_is_term ["notions", "thing"] (spOf K ct (List.length (α := Str) ["notions", "thing"]) d_is_term) := by
  refine def_ok (k := 7) (N := n_is_term) (ps := ["notions", "thing"]) (g := g_is_term) T.F_is_term sc_is_term fun cdv A outer s H E hr quiet => ?_
  exact (sss_cons (ss_expr (se_call [false] (ok_require_notions T) rfl (hr.mono (by decide)) quiet rfl T.m_require_notions T.F_require_notions.kp T.b_require_notions (takes_of rfl rfl rfl rfl) (sa_cons (se_name 0) sa_nil) (soft_cons soft_nil)))
    (sss_one (ss_ret (se_cmp (rel_neE (hu64 hr)) (se_ix (se_call [false, false] (ok_parts_within T) rfl (hr.mono (by decide)) quiet rfl T.m_parts_within T.F_parts_within.kp T.b_parts_within (takes_of rfl rfl rfl rfl) (sa_cons (se_name 0) (sa_cons (se_name 1) sa_nil)) (soft_cons (soft_cons soft_nil))) se_int) se_str (nomark _)))))

abbrev n_read : List Str := ["notions", "term", "text", "found"]
theorem sc_read : FnScope n_read ["notions", "term"] (defScope s_read) := ⟨rfl, rfl, rfl, by decide +kernel, rfl, by decide +kernel, by decide +kernel⟩
def g_read : FS := (sSeq (sExpr (eCall d_require_notions [false] (aCons (eName 0) aNil)))
    (sSeq (sAsg (gT 2 (gCons' (gN 2) (gCons' (gN 3) gNil'))) (eCall d_parts_within [false, false] (aCons (eName 0) (aCons (eName 1) aNil))))
    (sSeq (sIf (t2 eqX (eName 2) (eD (.str "")))
    (sRaise "NoTerm")
    sNext)
    (sRet (eTup (aCons (eName 2) (aCons (eName 3) aNil)))))))
abbrev d_read : FD := runD n_read.length g_read
theorem ok_read (T : Txt K mg ct) : FnG P w K mg base (L2.CX P w) 8 T.a_read T.fd_read ["notions", "term"] (spOf K ct (List.length (α := Str) ["notions", "term"]) d_read) := by
  refine def_ok (k := 7) (N := n_read) (ps := ["notions", "term"]) (g := g_read) T.F_read sc_read fun cdv A outer s H E hr quiet => ?_
  exact (sss_cons (ss_expr (se_call [false] (ok_require_notions T) rfl (hr.mono (by decide)) quiet rfl T.m_require_notions T.F_require_notions.kp T.b_require_notions (takes_of rfl rfl rfl rfl) (sa_cons (se_name 0) sa_nil) (soft_cons soft_nil)))
    (sss_cons (ss_asg (sg_tup (n := 2) rfl (sgs_cons (sg_name 2 sc_read.nd) (sgs_cons (sg_name 3 sc_read.nd) sgs_nil))) (se_call [false, false] (ok_parts_within T) rfl (hr.mono (by decide)) quiet rfl T.m_parts_within T.F_parts_within.kp T.b_parts_within (takes_of rfl rfl rfl rfl) (sa_cons (se_name 0) (sa_cons (se_name 1) sa_nil)) (soft_cons (soft_cons soft_nil))))
    (sss_cons (ss_if (st_cmp (rel_eqX (hu64 hr)) (se_name 2) se_str (nomark _))
    (sss_one (ss_raise "NoTerm" rfl (takes_of rfl rfl rfl rfl) PySem.F.excBase_ValueError T.x_NoTerm T.g_NoTerm T.kC_NoTerm (raises_own T.s_NoTerm T.t_NoTerm) rfl T.h_NoTerm))
    sss_nil)
    (sss_one (ss_ret (se_tup (sa_cons (se_name 2) (sa_cons (se_name 3) sa_nil)) (soft_cons (soft_cons soft_nil))))))))

abbrev n_l_same : List Str := ["found", "due", "one", "other"]
theorem sc_l_same : FnScope n_l_same ["found", "due"] (defScope s_l_same) := ⟨rfl, rfl, rfl, by decide +kernel, rfl, by decide +kernel, by decide +kernel⟩
def g_l_same (d : FD) : FS := (sSeq (sIf (tst (u1 (isD "tuple") (eName 1)))
    (sSeq (sIf (tOrF (tNotF (tst (u1 (isD "tuple") (eName 0)))) (t2 neE (un lenD (aCons (eName 0) aNil)) (un lenD (aCons (eName 1) aNil))))
    (sRet (eD (.bool false)))
    sNext)
    (sRet (un allD (aCons (eLc [2, 3] (iZip (eName 0) (eName 1)) (gT 2 (gCons' (gN 2) (gCons' (gN 3) gNil'))) tTrue (eCall d [false, false] (aCons (eName 2) (aCons (eName 3) aNil)))) aNil))))
    sNext)
    (sSeq (sIf (t2 isND (eName 1) (eD .none))
    (sRet (u2 (asB isND) (eName 0) (eD .none)))
    sNext)
    (sSeq (sIf (tst (u1 (isD2 "str" "bool") (eName 1)))
    (sRet (eAnd (u1 (isD2 "str" "bool") (eName 0)) (eAnd (u2 (asB eqE) (u1 (isD "bool") (eName 0)) (u1 (isD "bool") (eName 1))) (u2 (asB eqE) (eName 0) (eName 1)))))
    sNext)
    (sRet (eAnd (u1 (isD "int") (eName 0)) (eAnd (eNot (u1 (isD "bool") (eName 0))) (u2 (asB eqE) (eName 0) (eName 1))))))))
def d_l_same : Nat → FD
  | 0 => fun _ => .fail
  | n + 1 => runD n_l_same.length (g_l_same (d_l_same n))
theorem ok_l_same (T : Txt K mg ct) : ∀ n : Nat, FnG P w K mg base (L2.CX P w) (0 + n) T.a_l_same T.fd_l_same ["found", "due"] (spOf K ct (List.length (α := Str) ["found", "due"]) (d_l_same n))
  | 0 => fnG_fail
  | n + 1 => by
    show FnG P w K mg base (L2.CX P w) (0 + n + 1) T.a_l_same T.fd_l_same ["found", "due"] (spOf K ct (List.length (α := Str) ["found", "due"]) (runD n_l_same.length (g_l_same (d_l_same n))))
    have ih := ok_l_same T n
    refine def_ok (k := 0 + n) (N := n_l_same) (ps := ["found", "due"]) (g := g_l_same (d_l_same n)) T.F_l_same sc_l_same fun cdv A outer s H E hr quiet => ?_
    exact (sss_cons (ss_if (st_val (se_is (T := "tuple") rfl rfl T.n_isinstance rfl T.n_tuple bo_tuple (se_name 1)))
    (sss_cons (ss_if (st_w (sw_or (st_not (st_val (se_is (T := "tuple") rfl rfl T.n_isinstance rfl T.n_tuple bo_tuple (se_name 0)))) (sw_or1 (st_cmp (rel_neE (hu64 hr)) (se_fun call_lenA rfl T.n_len bo_len (sa_cons (se_name 0) sa_nil)) (se_fun call_lenA rfl T.n_len bo_len (sa_cons (se_name 1) sa_nil)) (nomark _)))))
    (sss_one (ss_ret se_bl))
    sss_nil)
    (sss_one (ss_ret (se_fun (call_allA rfl) rfl T.n_all bo_all (sa_cons (se_lc [("one", 2), ("other", 3)] rfl sc_l_same.nd (si_zip rfl T.n_zip (se_name 0) (se_name 1)) (blkOk_by (N := n_l_same) (sc := defScope s_l_same) (by decide +kernel)) (by decide) (fun _ _ _ _ _ => (sg_tup (n := 2) rfl (sgs_cons (sg_name 2 sc_l_same.nd) (sgs_cons (sg_name 3 sc_l_same.nd) sgs_nil)))) (fun _ _ _ _ _ => spt_nil) (fun _ _ _ _ _ => (se_call [false, false] ih rfl hr quiet rfl T.m_l_same T.F_l_same.kp T.b_l_same takes0 (sa_cons (se_name 2) (sa_cons (se_name 3) sa_nil)) (soft_cons (soft_cons soft_nil))))) sa_nil)))))
    sss_nil)
    (sss_cons (ss_if (st_cmp rel_isN (se_name 1) se_non rfl)
    (sss_one (ss_ret (se_cmp rel_isN (se_name 0) se_non rfl)))
    sss_nil)
    (sss_cons (ss_if (st_val (se_is2 (S := "str") (T := "bool") rfl rfl T.n_isinstance rfl T.n_str bo_str rfl T.n_bool bo_bool (se_name 1)))
    (sss_one (ss_ret (se_and (se_is2 (S := "str") (T := "bool") rfl rfl T.n_isinstance rfl T.n_str bo_str rfl T.n_bool bo_bool (se_name 0)) (se_and (se_cmp (rel_eqE (hu64 hr)) (se_is (T := "bool") rfl rfl T.n_isinstance rfl T.n_bool bo_bool (se_name 0)) (se_is (T := "bool") rfl rfl T.n_isinstance rfl T.n_bool bo_bool (se_name 1)) (nomark _)) (se_one (se_cmp (rel_eqE (hu64 hr)) (se_name 0) (se_name 1) (nomark _)))))))
    sss_nil)
    (sss_one (ss_ret (se_and (se_is (T := "int") rfl rfl T.n_isinstance rfl T.n_int bo_int (se_name 0)) (se_and (se_not (se_is (T := "bool") rfl rfl T.n_isinstance rfl T.n_bool bo_bool (se_name 0))) (se_one (se_cmp (rel_eqE (hu64 hr)) (se_name 0) (se_name 1) (nomark _))))))))))

abbrev n_places_of : List Str := ["notions", "term", "text", "found"]
theorem sc_places_of : FnScope n_places_of ["notions", "term"] (defScope s_places_of) := ⟨rfl, rfl, rfl, by decide +kernel, rfl, by decide +kernel, by decide +kernel⟩
def g_places_of : FS := (sSeq (sAsg (gT 2 (gCons' (gN 2) (gCons' (gN 3) gNil'))) (eCall d_read [false, false] (aCons (eName 0) (aCons (eName 1) aNil))))
    (sRet (u2 ixD (u2 keyD2 (eName 3) (eName 2)) (eD (.int 1)))))
abbrev d_places_of : FD := runD n_places_of.length g_places_of
theorem ok_places_of (T : Txt K mg ct) : FnG P w K mg base (L2.CX P w) 9 T.a_places_of T.fd_places_of ["notions", "term"] (spOf K ct (List.length (α := Str) ["notions", "term"]) d_places_of) := by
  refine def_ok (k := 8) (N := n_places_of) (ps := ["notions", "term"]) (g := g_places_of) T.F_places_of sc_places_of fun cdv A outer s H E hr quiet => ?_
  exact (sss_cons (ss_asg (sg_tup (n := 2) rfl (sgs_cons (sg_name 2 sc_places_of.nd) (sgs_cons (sg_name 3 sc_places_of.nd) sgs_nil))) (se_call [false, false] (ok_read T) rfl (hr.mono (by decide)) quiet rfl T.m_read T.F_read.kp T.b_read (takes_of rfl rfl rfl rfl) (sa_cons (se_name 0) (sa_cons (se_name 1) sa_nil)) (soft_cons (soft_cons soft_nil))))
    (sss_one (ss_ret (se_ix (se_key (hu1 hr) (se_name 3) (se_name 2)) se_int))))

abbrev n_parts_of : List Str := ["notions", "term", "_", "found"]
theorem sc_parts_of : FnScope n_parts_of ["notions", "term"] (defScope s_parts_of) := ⟨rfl, rfl, rfl, by decide +kernel, rfl, by decide +kernel, by decide +kernel⟩
def g_parts_of : FS := (sSeq (sAsg (gT 2 (gCons' (gN 2) (gCons' (gN 3) gNil'))) (eCall d_read [false, false] (aCons (eName 0) (aCons (eName 1) aNil))))
    (sRet (eCall d_terms_by_text [false] (aCons (eName 3) aNil))))
abbrev d_parts_of : FD := runD n_parts_of.length g_parts_of
theorem ok_parts_of (T : Txt K mg ct) : FnG P w K mg base (L2.CX P w) 9 T.a_parts_of T.fd_parts_of ["notions", "term"] (spOf K ct (List.length (α := Str) ["notions", "term"]) d_parts_of) := by
  refine def_ok (k := 8) (N := n_parts_of) (ps := ["notions", "term"]) (g := g_parts_of) T.F_parts_of sc_parts_of fun cdv A outer s H E hr quiet => ?_
  exact (sss_cons (ss_asg (sg_tup (n := 2) rfl (sgs_cons (sg_name 2 sc_parts_of.nd) (sgs_cons (sg_name 3 sc_parts_of.nd) sgs_nil))) (se_call [false, false] (ok_read T) rfl (hr.mono (by decide)) quiet rfl T.m_read T.F_read.kp T.b_read (takes_of rfl rfl rfl rfl) (sa_cons (se_name 0) (sa_cons (se_name 1) sa_nil)) (soft_cons (soft_cons soft_nil))))
    (sss_one (ss_ret (se_call [false] (ok_terms_by_text T) rfl (hr.mono (by decide)) quiet rfl T.m_terms_by_text T.F_terms_by_text.kp T.b_terms_by_text (takes_of rfl rfl rfl rfl) (sa_cons (se_name 3) sa_nil) (soft_cons soft_nil)))))

abbrev n_term_text : List Str := ["notions", "term", "text", "_"]
theorem sc_term_text : FnScope n_term_text ["notions", "term"] (defScope s_term_text) := ⟨rfl, rfl, rfl, by decide +kernel, rfl, by decide +kernel, by decide +kernel⟩
def g_term_text : FS := (sSeq (sAsg (gT 2 (gCons' (gN 2) (gCons' (gN 3) gNil'))) (eCall d_read [false, false] (aCons (eName 0) (aCons (eName 1) aNil))))
    (sRet (eName 2)))
abbrev d_term_text : FD := runD n_term_text.length g_term_text
theorem ok_term_text (T : Txt K mg ct) : FnG P w K mg base (L2.CX P w) 9 T.a_term_text T.fd_term_text ["notions", "term"] (spOf K ct (List.length (α := Str) ["notions", "term"]) d_term_text) := by
  refine def_ok (k := 8) (N := n_term_text) (ps := ["notions", "term"]) (g := g_term_text) T.F_term_text sc_term_text fun cdv A outer s H E hr quiet => ?_
  exact (sss_cons (ss_asg (sg_tup (n := 2) rfl (sgs_cons (sg_name 2 sc_term_text.nd) (sgs_cons (sg_name 3 sc_term_text.nd) sgs_nil))) (se_call [false, false] (ok_read T) rfl (hr.mono (by decide)) quiet rfl T.m_read T.F_read.kp T.b_read (takes_of rfl rfl rfl rfl) (sa_cons (se_name 0) (sa_cons (se_name 1) sa_nil)) (soft_cons (soft_cons soft_nil))))
    (sss_one (ss_ret (se_name 2))))

abbrev n_l_told : List Str := ["way", "notions", "thing"]
theorem sc_l_told : FnScope n_l_told ["way", "notions", "thing"] (defScope s_l_told) := ⟨rfl, rfl, rfl, by decide +kernel, rfl, by decide +kernel, by decide +kernel⟩
def g_l_told : FS := (sSeq (sIf (t2 eqE (eName 0) (eD (.int 0)))
    (sRet (eCall d_places_of [false, false] (aCons (eName 1) (aCons (eName 2) aNil))))
    sNext)
    (sRet (eIf (t2 eqE (eName 0) (eD (.int 1))) (eCall d_term_text [false, false] (aCons (eName 1) (aCons (eName 2) aNil))) (eCall d_parts_of [false, false] (aCons (eName 1) (aCons (eName 2) aNil))))))
abbrev d_l_told : FD := runD n_l_told.length g_l_told
theorem ok_l_told (T : Txt K mg ct) : FnG P w K mg base (L2.CX P w) 10 T.a_l_told T.fd_l_told ["way", "notions", "thing"] (spOf K ct (List.length (α := Str) ["way", "notions", "thing"]) d_l_told) := by
  refine def_ok (k := 9) (N := n_l_told) (ps := ["way", "notions", "thing"]) (g := g_l_told) T.F_l_told sc_l_told fun cdv A outer s H E hr quiet => ?_
  exact (sss_cons (ss_if (st_cmp (rel_eqE (hu64 hr)) (se_name 0) se_int (nomark _))
    (sss_one (ss_ret (se_call [false, false] (ok_places_of T) rfl (hr.mono (by decide)) quiet rfl T.m_places_of T.F_places_of.kp T.b_places_of (takes_of rfl rfl rfl rfl) (sa_cons (se_name 1) (sa_cons (se_name 2) sa_nil)) (soft_cons (soft_cons soft_nil)))))
    sss_nil)
    (sss_one (ss_ret (se_if (st_cmp (rel_eqE (hu64 hr)) (se_name 0) se_int (nomark _)) (se_call [false, false] (ok_term_text T) rfl (hr.mono (by decide)) quiet rfl T.m_term_text T.F_term_text.kp T.b_term_text (takes_of rfl rfl rfl rfl) (sa_cons (se_name 1) (sa_cons (se_name 2) sa_nil)) (soft_cons (soft_cons soft_nil))) (se_call [false, false] (ok_parts_of T) rfl (hr.mono (by decide)) quiet rfl T.m_parts_of T.F_parts_of.kp T.b_parts_of (takes_of rfl rfl rfl rfl) (sa_cons (se_name 1) (sa_cons (se_name 2) sa_nil)) (soft_cons (soft_cons soft_nil)))))))

abbrev n_l_refused : List Str := ["way", "notions", "thing", "e"]
theorem sc_l_refused : FnScope n_l_refused ["way", "notions", "thing"] (defScope s_l_refused) := ⟨rfl, rfl, rfl, by decide +kernel, rfl, by decide +kernel, by decide +kernel⟩
def g_l_refused : FS := (sSeq (sTryRet 3 (catL [("NoNotions", true), ("NoTerm", true)])
    (sExpr (eCall d_l_told [false, false, false] (aCons (eName 0) (aCons (eName 1) (aCons (eName 2) aNil)))))
    (sRet (eAnd (eIsE 3 (catL [("NoNotions", false), ("NoTerm", true)])) (eNot (eIsE 3 (catL [("NoNotions", true), ("NoTerm", false)]))))))
    (sRet (eD (.bool false))))
abbrev d_l_refused : FD := runD n_l_refused.length g_l_refused
theorem ok_l_refused (T : Txt K mg ct) : FnG P w K mg base (L2.CX P w) 11 T.a_l_refused T.fd_l_refused ["way", "notions", "thing"] (spOf K ct (List.length (α := Str) ["way", "notions", "thing"]) d_l_refused) := by
  refine def_ok (k := 10) (N := n_l_refused) (ps := ["way", "notions", "thing"]) (g := g_l_refused) T.F_l_refused sc_l_refused fun cdv A outer s H E hr quiet => ?_
  exact (sss_cons (ss_try 3 (catL [("NoNotions", true), ("NoTerm", true)]) rfl rfl sc_l_refused.nd rfl rfl ⟨rfl, by decide, .inl T.g_LoreError⟩ (takes_of rfl rfl rfl rfl) (CatOk.get (P := fun A b => PySem.W.exmOne K (.ref A) (.ref T.c_LoreError) = some b) (.cons T.h_NoNotions T.e_NoNotions_LoreError (.cons T.h_NoTerm T.e_NoTerm_LoreError .nil)))
    (fun W' pn xe tk hp => (sss_one (ss_expr (se_call [false, false, false] (ok_l_told T) rfl (hr.mono (by decide)) quiet rfl T.m_l_told T.F_l_told.kp T.b_l_told tk (sa_cons (se_name 0) (sa_cons (se_name 1) (sa_cons (se_name 2) sa_nil))) (soft_cons (soft_cons (soft_cons soft_nil)))))))
    (fun a oe C y pn hy hz hf => (sss_one (ss_ret (se_and (se_isX 3 [("NoNotions", false), ("NoTerm", true)] (.cons T.h_NoNotions ⟨T.E_NoNotions, T.i_NoNotions_NoTerm⟩ (.cons T.h_NoTerm ⟨T.E_NoTerm, T.i_NoTerm_NoTerm⟩ .nil)) hy hz hf rfl rfl T.n_isinstance rfl (by first | exact Or.inl rfl | exact Or.inr (Or.inl rfl) | exact Or.inr (Or.inr rfl)) rfl T.g_NoTerm) (se_one (se_not (se_isX3 3 [("NoNotions", true), ("NoTerm", false)] (.cons T.h_NoNotions ⟨T.E_NoNotions, T.i_NoNotions_NoAtom_NoField_NoNotions⟩ (.cons T.h_NoTerm ⟨T.E_NoTerm, T.i_NoTerm_NoAtom_NoField_NoNotions⟩ .nil)) hy hz hf rfl rfl T.n_isinstance rfl (by first | exact Or.inl rfl | exact Or.inr (Or.inl rfl) | exact Or.inr (Or.inr rfl)) rfl T.g_NoAtom rfl T.g_NoField rfl T.g_NoNotions))))))))
    (sss_one (ss_ret se_bl)))

abbrev n_l_right : List Str := ["notions", "thing", "due", "kept", "told", "some", "again", "way"]
theorem sc_l_right : FnScope n_l_right ["notions", "thing"] (defScope s_l_right) := ⟨rfl, rfl, rfl, by decide +kernel, rfl, by decide +kernel, by decide +kernel⟩
def g_l_right : FS := (sSeq (sSet false 2 (eCall (d_l_places 5) [false, false, false] (aCons (eName 0) (aCons (eName 1) (aCons (eD (.int 3)) aNil)))))
    (sSeq (sSet false 3 (un reprD (aCons (eName 1) aNil)))
    (sSeq (sForI (iR1 (eD (.int 2))) (gN 6)
    (sSeq (sSet false 4 (eCall d_is_term [false, false] (aCons (eName 0) (aCons (eName 1) aNil))))
    (sSeq (sIf (tOrF (tNotF (tst (u1 (isD "bool") (eName 4)))) (t2 neE (eName 4) (u2 (asB gtD) (eName 2) (eD (.int 0)))))
    (sRet (eD (.bool false)))
    sNext)
    (sIf (t2 eqE (eName 2) (eD (.int 0)))
    (sIf (t2 neE (eLc [7] (iR1 (eD (.int 3))) (gN 7) (tNotF (tst (eCall d_l_refused [false, false, false] (aCons (eName 7) (aCons (eName 0) (aCons (eName 1) aNil)))))) (eName 7)) (eLst aNil))
    (sRet (eD (.bool false)))
    sNext)
    (sSeq (sSet false 5 (eLst (aCons (eCall d_places_of [false, false] (aCons (eName 0) (aCons (eName 1) aNil))) (aCons (eCall d_term_text [false, false] (aCons (eName 0) (aCons (eName 1) aNil))) (aCons (eCall d_parts_of [false, false] (aCons (eName 0) (aCons (eName 1) aNil))) aNil)))))
    (sIf (tNotF (tst (eCall (d_l_same 8) [false, false] (aCons (un tupleD (aCons (eName 5) aNil)) (aCons (eTup (aCons (eName 2) (aCons (eCall (d_l_text 5) [false] (aCons (eName 1) aNil)) (aCons (eCall d_l_due_parts [false] (aCons (eName 1) aNil)) aNil)))) aNil)))))
    (sRet (eD (.bool false)))
    sNext))))))
    (sRet (u2 (asB eqE) (un reprD (aCons (eName 1) aNil)) (eName 3))))))
abbrev d_l_right : FD := runD n_l_right.length g_l_right
theorem ok_l_right (T : Txt K mg ct) : FnG P w K mg base (L2.CX P w) 12 T.a_l_right T.fd_l_right ["notions", "thing"] (spOf K ct (List.length (α := Str) ["notions", "thing"]) d_l_right) := by
  refine def_ok (k := 11) (N := n_l_right) (ps := ["notions", "thing"]) (g := g_l_right) T.F_l_right sc_l_right fun cdv A outer s H E hr quiet => ?_
  exact (sss_cons (ss_set false 2 (se_call [false, false, false] (ok_l_places T 5) rfl (hr.mono (by decide)) quiet rfl T.m_l_places T.F_l_places.kp T.b_l_places (takes_of rfl rfl rfl rfl) (sa_cons (se_name 0) (sa_cons (se_name 1) (sa_cons se_int sa_nil))) (soft_cons (soft_cons (soft_cons soft_nil)))) sc_l_right.nd)
    (sss_cons (ss_set false 3 (se_fun (call_reprA quiet (hu64 hr)) rfl T.n_repr bo_repr (sa_cons (se_name 1) sa_nil)) sc_l_right.nd)
    (sss_cons (ss_for (passes_of rfl) rfl (si_range1 se_int rfl T.n_range) (sg_name 6 sc_l_right.nd)
    (sss_cons (ss_set false 4 (se_call [false, false] (ok_is_term T) rfl (hr.mono (by decide)) quiet rfl T.m_is_term T.F_is_term.kp T.b_is_term (takes_of rfl rfl rfl rfl) (sa_cons (se_name 0) (sa_cons (se_name 1) sa_nil)) (soft_cons (soft_cons soft_nil))) sc_l_right.nd)
    (sss_cons (ss_if (st_w (sw_or (st_not (st_val (se_is (T := "bool") rfl rfl T.n_isinstance rfl T.n_bool bo_bool (se_name 4)))) (sw_or1 (st_cmp (rel_neE (hu64 hr)) (se_name 4) (se_cmp rel_gt (se_name 2) se_int (nomark _)) (nomark _)))))
    (sss_one (ss_ret se_bl))
    sss_nil)
    (sss_one (ss_if (st_cmp (rel_eqE (hu64 hr)) (se_name 2) se_int (nomark _))
    (sss_one (ss_if (st_cmp (rel_neE (hu64 hr)) (se_lc [("way", 7)] rfl sc_l_right.nd (si_range1 se_int rfl T.n_range) (blkOk_by (N := n_l_right) (sc := defScope s_l_right) (by decide +kernel)) (by decide) (fun _ _ _ _ _ => (sg_name 7 sc_l_right.nd)) (fun _ _ _ _ _ => (spt_one (st_not (st_val (se_call [false, false, false] (ok_l_refused T) rfl (hr.mono (by decide)) quiet rfl T.m_l_refused T.F_l_refused.kp T.b_l_refused takes0 (sa_cons (se_name 7) (sa_cons (se_name 0) (sa_cons (se_name 1) sa_nil))) (soft_cons (soft_cons (soft_cons soft_nil)))))))) (fun _ _ _ _ _ => (se_name 7))) (se_lst sa_nil soft_nil) (nomark _))
    (sss_one (ss_ret se_bl))
    sss_nil))
    (sss_cons (ss_set false 5 (se_lst (sa_cons (se_call [false, false] (ok_places_of T) rfl (hr.mono (by decide)) quiet rfl T.m_places_of T.F_places_of.kp T.b_places_of (takes_of rfl rfl rfl rfl) (sa_cons (se_name 0) (sa_cons (se_name 1) sa_nil)) (soft_cons (soft_cons soft_nil))) (sa_cons (se_call [false, false] (ok_term_text T) rfl (hr.mono (by decide)) quiet rfl T.m_term_text T.F_term_text.kp T.b_term_text (takes_of rfl rfl rfl rfl) (sa_cons (se_name 0) (sa_cons (se_name 1) sa_nil)) (soft_cons (soft_cons soft_nil))) (sa_cons (se_call [false, false] (ok_parts_of T) rfl (hr.mono (by decide)) quiet rfl T.m_parts_of T.F_parts_of.kp T.b_parts_of (takes_of rfl rfl rfl rfl) (sa_cons (se_name 0) (sa_cons (se_name 1) sa_nil)) (soft_cons (soft_cons soft_nil))) sa_nil))) (soft_cons (soft_cons (soft_cons soft_nil)))) sc_l_right.nd)
    (sss_one (ss_if (st_not (st_val (se_call [false, false] (ok_l_same T 8) rfl (hr.mono (by decide)) quiet rfl T.m_l_same T.F_l_same.kp T.b_l_same (takes_of rfl rfl rfl rfl) (sa_cons (se_type call_tupleA rfl T.n_tuple bo_tuple (sa_cons (se_name 5) sa_nil)) (sa_cons (se_tup (sa_cons (se_name 2) (sa_cons (se_call [false] (ok_l_text T 5) rfl (hr.mono (by decide)) quiet rfl T.m_l_text T.F_l_text.kp T.b_l_text (takes_of rfl rfl rfl rfl) (sa_cons (se_name 1) sa_nil) (soft_cons soft_nil)) (sa_cons (se_call [false] (ok_l_due_parts T) rfl (hr.mono (by decide)) quiet rfl T.m_l_due_parts T.F_l_due_parts.kp T.b_l_due_parts (takes_of rfl rfl rfl rfl) (sa_cons (se_name 1) sa_nil) (soft_cons soft_nil)) sa_nil))) (soft_cons (soft_cons (soft_cons soft_nil)))) sa_nil)) (soft_cons (soft_cons soft_nil)))))
    (sss_one (ss_ret se_bl))
    sss_nil))))))))
    (sss_one (ss_ret (se_cmp (rel_eqE (hu64 hr)) (se_fun (call_reprA quiet (hu64 hr)) rfl T.n_repr bo_repr (sa_cons (se_name 1) sa_nil)) (se_name 3) (nomark _)))))))

abbrev n_law : List Str := ["script", "cells", "pool", "notions", "things", "term", "spoilt", "turn", "thing", "k", "name", "places"]
theorem sc_law : FnScope n_law ["script"] (defScope s_law) := ⟨rfl, rfl, rfl, by decide +kernel, rfl, by decide +kernel, by decide +kernel⟩
def g_law : FS := (sSeq (sSet false 1 (eCall d_l_folded [false, false] (aCons (eName 0) (aCons (eD (.int 8)) aNil))))
    (sSeq (sForI (iR1 (un lenD (aCons (eName 1) aNil))) (gN 9)
    (sSeq (sSet true 2 (eCall d_l_pool [false, false] (aCons (eName 1) (aCons (eName 9) aNil))))
    (sSeq (sSet false 3 (eCall d_l_notions [true] (aCons (eName 2) aNil)))
    (sSeq (sSet false 4 (u2 addD (eLc [10, 11] (iSeq (eName 3)) (gT 2 (gCons' (gN 10) (gCons' (gN 11) gNil'))) tTrue (eName 10)) (eLst (aCons (eCall d_l_odd [true] (aCons (eName 2) aNil)) (aCons (u2 ixD (eName 3) (eD (.int 0))) (aCons (eD (.str "zzzzzzzzz")) (aCons (eD (.str "not")) (aCons (eTup (aCons (eD (.str "not")) aNil)) aNil))))))))
    (sSeq (sForI (iR1 (eD (.int 6))) (gN 7)
    (sSeq (sSet false 5 (u2 ixD (eCall d_l_term [true, false, false] (aCons (eName 2) (aCons (eName 3) (aCons (eD (.int 3)) aNil)))) (eD (.int 0))))
    (sSeq (sSet false 6 (eCall (d_l_spoilt 5) [true, false, false] (aCons (eName 2) (aCons (eName 5) (aCons (eD (.int 4)) aNil)))))
    (sSeq (sSet false 4 (u2 addD (eName 4) (eLst (aCons (eName 5) (aCons (eName 6) (aCons (eCall (d_l_spoilt 5) [true, false, false] (aCons (eName 2) (aCons (eName 6) (aCons (eD (.int 4)) aNil)))) (aCons (eTup (aCons (eD (.str "not")) (aCons (eName 5) aNil))) aNil)))))))
    (sSeq (sSet false 4 (u2 addD (eName 4) (eLst (aCons (eCall (d_l_text 5) [false] (aCons (eName 5) aNil)) (aCons (eTup (aCons (eD (.str "not")) (aCons (eCall (d_l_text 5) [false] (aCons (eName 5) aNil)) aNil))) (aCons (eTup (aCons (eD (.str "both")) (aCons (eName 5) (aCons (eCall (d_l_text 5) [false] (aCons (eName 5) aNil)) aNil)))) aNil))))))
    (sSet false 4 (u2 addD (eName 4) (eLst (aCons (eCall d_l_about [true, false, false] (aCons (eName 2) (aCons (eName 3) (aCons (eName 5) aNil)))) (aCons (eCall d_l_about [true, false, false] (aCons (eName 2) (aCons (eName 3) (aCons (eName 6) aNil)))) aNil))))))))))
    (sForI (iSeq (eName 4)) (gN 8)
    (sIf (tNotF (tst (eCall d_l_right [false, false] (aCons (eName 3) (aCons (eName 8) aNil)))))
    (sRet (eD (.bool false)))
    sNext)))))))
    (sRet (eD (.bool true)))))
abbrev d_law : FD := runD n_law.length g_law
theorem ok_law (T : Txt K mg ct) : FnG P w K mg base (L2.CX P w) 13 T.a_law T.fd_law ["script"] (spOf K ct (List.length (α := Str) ["script"]) d_law) := by
  refine def_ok (k := 12) (N := n_law) (ps := ["script"]) (g := g_law) T.F_law sc_law fun cdv A outer s H E hr quiet => ?_
  exact (sss_cons (ss_set false 1 (se_call [false, false] (ok_l_folded T) rfl (hr.mono (by decide)) quiet rfl T.m_l_folded T.F_l_folded.kp T.b_l_folded (takes_of rfl rfl rfl rfl) (sa_cons (se_name 0) (sa_cons se_int sa_nil)) (soft_cons (soft_cons soft_nil))) sc_law.nd)
    (sss_cons (ss_for (passes_of rfl) rfl (si_range1 (se_fun call_lenA rfl T.n_len bo_len (sa_cons (se_name 1) sa_nil)) rfl T.n_range) (sg_name 9 sc_law.nd)
    (sss_cons (ss_set true 2 (se_call [false, false] (ok_l_pool T) rfl (hr.mono (by decide)) quiet rfl T.m_l_pool T.F_l_pool.kp T.b_l_pool (takes_of rfl rfl rfl rfl) (sa_cons (se_name 1) (sa_cons (se_name 9) sa_nil)) (soft_cons (soft_cons soft_nil))) sc_law.nd)
    (sss_cons (ss_set false 3 (se_call [true] (ok_l_notions T) rfl (hr.mono (by decide)) quiet rfl T.m_l_notions T.F_l_notions.kp T.b_l_notions (takes_of rfl rfl rfl rfl) (sa_cons (se_name 2) sa_nil) (soft_cons soft_nil)) sc_law.nd)
    (sss_cons (ss_set false 4 (se_add (se_lc [("name", 10), ("places", 11)] rfl sc_law.nd (si_seq (se_name 3) (fun _ h => pi_list h) (fun _ h => pi_tup h)) (blkOk_by (N := n_law) (sc := defScope s_law) (by decide +kernel)) (by decide) (fun _ _ _ _ _ => (sg_tup (n := 2) rfl (sgs_cons (sg_name 10 sc_law.nd) (sgs_cons (sg_name 11 sc_law.nd) sgs_nil)))) (fun _ _ _ _ _ => spt_nil) (fun _ _ _ _ _ => (se_name 10))) (se_lst (sa_cons (se_call [true] (ok_l_odd T) rfl (hr.mono (by decide)) quiet rfl T.m_l_odd T.F_l_odd.kp T.b_l_odd (takes_of rfl rfl rfl rfl) (sa_cons (se_name 2) sa_nil) (soft_cons soft_nil)) (sa_cons (se_ix (se_name 3) se_int) (sa_cons se_str (sa_cons se_str (sa_cons (se_tup (sa_cons se_str sa_nil) (soft_cons soft_nil)) sa_nil))))) (soft_cons (soft_cons (soft_cons (soft_cons (soft_cons soft_nil))))))) sc_law.nd)
    (sss_cons (ss_for (passes_of rfl) rfl (si_range1 se_int rfl T.n_range) (sg_name 7 sc_law.nd)
    (sss_cons (ss_set false 5 (se_ix (se_call [true, false, false] (ok_l_term T) rfl (hr.mono (by decide)) quiet rfl T.m_l_term T.F_l_term.kp T.b_l_term (takes_of rfl rfl rfl rfl) (sa_cons (se_name 2) (sa_cons (se_name 3) (sa_cons se_int sa_nil))) (soft_cons (soft_cons (soft_cons soft_nil)))) se_int) sc_law.nd)
    (sss_cons (ss_set false 6 (se_call [true, false, false] (ok_l_spoilt T 5) rfl (hr.mono (by decide)) quiet rfl T.m_l_spoilt T.F_l_spoilt.kp T.b_l_spoilt (takes_of rfl rfl rfl rfl) (sa_cons (se_name 2) (sa_cons (se_name 5) (sa_cons se_int sa_nil))) (soft_cons (soft_cons (soft_cons soft_nil)))) sc_law.nd)
    (sss_cons (ss_set false 4 (se_add (se_name 4) (se_lst (sa_cons (se_name 5) (sa_cons (se_name 6) (sa_cons (se_call [true, false, false] (ok_l_spoilt T 5) rfl (hr.mono (by decide)) quiet rfl T.m_l_spoilt T.F_l_spoilt.kp T.b_l_spoilt (takes_of rfl rfl rfl rfl) (sa_cons (se_name 2) (sa_cons (se_name 6) (sa_cons se_int sa_nil))) (soft_cons (soft_cons (soft_cons soft_nil)))) (sa_cons (se_tup (sa_cons se_str (sa_cons (se_name 5) sa_nil)) (soft_cons (soft_cons soft_nil))) sa_nil)))) (soft_cons (soft_cons (soft_cons (soft_cons soft_nil)))))) sc_law.nd)
    (sss_cons (ss_set false 4 (se_add (se_name 4) (se_lst (sa_cons (se_call [false] (ok_l_text T 5) rfl (hr.mono (by decide)) quiet rfl T.m_l_text T.F_l_text.kp T.b_l_text (takes_of rfl rfl rfl rfl) (sa_cons (se_name 5) sa_nil) (soft_cons soft_nil)) (sa_cons (se_tup (sa_cons se_str (sa_cons (se_call [false] (ok_l_text T 5) rfl (hr.mono (by decide)) quiet rfl T.m_l_text T.F_l_text.kp T.b_l_text (takes_of rfl rfl rfl rfl) (sa_cons (se_name 5) sa_nil) (soft_cons soft_nil)) sa_nil)) (soft_cons (soft_cons soft_nil))) (sa_cons (se_tup (sa_cons se_str (sa_cons (se_name 5) (sa_cons (se_call [false] (ok_l_text T 5) rfl (hr.mono (by decide)) quiet rfl T.m_l_text T.F_l_text.kp T.b_l_text (takes_of rfl rfl rfl rfl) (sa_cons (se_name 5) sa_nil) (soft_cons soft_nil)) sa_nil))) (soft_cons (soft_cons (soft_cons soft_nil)))) sa_nil))) (soft_cons (soft_cons (soft_cons soft_nil))))) sc_law.nd)
    (sss_one (ss_set false 4 (se_add (se_name 4) (se_lst (sa_cons (se_call [true, false, false] (ok_l_about T) rfl (hr.mono (by decide)) quiet rfl T.m_l_about T.F_l_about.kp T.b_l_about (takes_of rfl rfl rfl rfl) (sa_cons (se_name 2) (sa_cons (se_name 3) (sa_cons (se_name 5) sa_nil))) (soft_cons (soft_cons (soft_cons soft_nil)))) (sa_cons (se_call [true, false, false] (ok_l_about T) rfl (hr.mono (by decide)) quiet rfl T.m_l_about T.F_l_about.kp T.b_l_about (takes_of rfl rfl rfl rfl) (sa_cons (se_name 2) (sa_cons (se_name 3) (sa_cons (se_name 6) sa_nil))) (soft_cons (soft_cons (soft_cons soft_nil)))) sa_nil)) (soft_cons (soft_cons soft_nil)))) sc_law.nd)))))))
    (sss_one (ss_for (passes_of rfl) rfl (si_seq (se_name 4) (fun _ h => pi_list h) (fun _ h => pi_tup h)) (sg_name 8 sc_law.nd)
    (sss_one (ss_if (st_not (st_val (se_call [false, false] (ok_l_right T) rfl (hr.mono (by decide)) quiet rfl T.m_l_right T.F_l_right.kp T.b_l_right (takes_of rfl rfl rfl rfl) (sa_cons (se_name 3) (sa_cons (se_name 8) sa_nil)) (soft_cons (soft_cons soft_nil)))))
    (sss_one (ss_ret se_bl))
    sss_nil)))))))))
    (sss_one (ss_ret se_bl))))

end
end G03
namespace G03
open PySem PySem.Spec PyProof.Rows L2 Px
theorem take_pos (p0 p1 p2 m : Int) (h0 : 0 < p0) (hm : 0 < m) (hm' : m < 1073741824) :
    d_l_take [.io (.lst [.int p0, .int p1, .int p2]), .val (.int m)] = .rt (.int (p0 % m)) [.lst [.int (p0 / m), .int p1, .int p2]] := by
  refine runD_rt (st := [.io (.lst [.int (p0 / m), .int p1, .int p2])]) ?_
  unfold g_l_take
  apply sSeq_rt
  apply sIf_ok
  · repeat' (first | apply u2_ok | apply u1_ok | apply t2_ok | apply un_ok | apply aCons_ok | apply eTup_ok | apply eLst_ok | apply tst_ok | apply tNotF_ok | apply eNot_ok | apply tOrF_ok | apply tAndF_ok | apply eOr_ok | apply eAnd_ok | apply eIf_ok | apply eOfT_ok | apply sSet_ok | apply sRet_ok | apply sExpr_ok | apply sSetIx_ok | apply int2_ok | rfl | (first | exact trivial | decide | omega | (simp only [List.length_cons, List.length_nil, Lim]; omega) | (refine ⟨?_, ?_⟩ <;> first | decide | omega) | (refine ⟨?_, ?_, ?_⟩ <;> first | decide | omega) | exact Or.inr (by refine ⟨?_, ?_⟩ <;> first | decide | omega) | exact Or.inl (by refine ⟨?_, ?_⟩ <;> first | decide | omega)))
  apply bif_t (decide_eq_true h0)
  apply sSeq_ok
  · repeat' (first | apply u2_ok | apply u1_ok | apply t2_ok | apply un_ok | apply aCons_ok | apply eTup_ok | apply eLst_ok | apply tst_ok | apply tNotF_ok | apply eNot_ok | apply tOrF_ok | apply tAndF_ok | apply eOr_ok | apply eAnd_ok | apply eIf_ok | apply eOfT_ok | apply sSet_ok | apply sRet_ok | apply sExpr_ok | apply sSetIx_ok | apply int2_ok | rfl | (first | exact trivial | decide | omega | (simp only [List.length_cons, List.length_nil, Lim]; omega) | (refine ⟨?_, ?_⟩ <;> first | decide | omega) | (refine ⟨?_, ?_, ?_⟩ <;> first | decide | omega) | exact Or.inr (by refine ⟨?_, ?_⟩ <;> first | decide | omega) | exact Or.inl (by refine ⟨?_, ?_⟩ <;> first | decide | omega)))
  apply sSeq_ok
  · repeat' (first | apply u2_ok | apply u1_ok | apply t2_ok | apply un_ok | apply aCons_ok | apply eTup_ok | apply eLst_ok | apply tst_ok | apply tNotF_ok | apply eNot_ok | apply tOrF_ok | apply tAndF_ok | apply eOr_ok | apply eAnd_ok | apply eIf_ok | apply eOfT_ok | apply sSet_ok | apply sRet_ok | apply sExpr_ok | apply sSetIx_ok | apply int2_ok | rfl | (first | exact trivial | decide | omega | (simp only [List.length_cons, List.length_nil, Lim]; omega) | (refine ⟨?_, ?_⟩ <;> first | decide | omega) | (refine ⟨?_, ?_, ?_⟩ <;> first | decide | omega) | exact Or.inr (by refine ⟨?_, ?_⟩ <;> first | decide | omega) | exact Or.inl (by refine ⟨?_, ?_⟩ <;> first | decide | omega)))
  repeat' (first | apply u2_ok | apply u1_ok | apply t2_ok | apply un_ok | apply aCons_ok | apply eTup_ok | apply eLst_ok | apply tst_ok | apply tNotF_ok | apply eNot_ok | apply tOrF_ok | apply tAndF_ok | apply eOr_ok | apply eAnd_ok | apply eIf_ok | apply eOfT_ok | apply sSet_ok | apply sRet_ok | apply sExpr_ok | apply sSetIx_ok | apply int2_ok | rfl | (first | exact trivial | decide | omega | (simp only [List.length_cons, List.length_nil, Lim]; omega) | (refine ⟨?_, ?_⟩ <;> first | decide | omega) | (refine ⟨?_, ?_, ?_⟩ <;> first | decide | omega) | exact Or.inr (by refine ⟨?_, ?_⟩ <;> first | decide | omega) | exact Or.inl (by refine ⟨?_, ?_⟩ <;> first | decide | omega)))
theorem take_neg (p0 p1 p2 m : Int) (h0 : ¬ 0 < p0) (h1 : 0 ≤ p1) (h1' : p1 < 1000000007) (h2 : 0 ≤ p2) (h2' : p2 < 1000000) (hm : 0 < m) (hm' : m < 1073741824) :
    ∃ d, 0 ≤ d ∧ d < m ∧ d_l_take [.io (.lst [.int p0, .int p1, .int p2]), .val (.int m)] = .rt (.int d) [.lst [.int p0, .int p1, .int (p2 + 1)]] := by
  have hh : ∀ x : Int, 0 ≤ x % m ∧ x % m < m := fun x => ⟨Int.emod_nonneg _ (by omega), Int.emod_lt_of_pos _ hm⟩
  suffices h : ∃ x : Int, d_l_take [.io (.lst [.int p0, .int p1, .int p2]), .val (.int m)] = .rt (.int (x % m)) [.lst [.int p0, .int p1, .int (p2 + 1)]] by
    obtain ⟨x, hx⟩ := h
    exact ⟨x % m, (hh x).1, (hh x).2, hx⟩
  apply Exists.intro
  apply runD_rt (st := [.io (.lst [.int p0, .int p1, .int (p2 + 1)])])
  unfold g_l_take
  apply sSeq_ok
  · apply sIf_ok
    · repeat' (first | apply u2_ok | apply u1_ok | apply t2_ok | apply un_ok | apply aCons_ok | apply eTup_ok | apply eLst_ok | apply tst_ok | apply tNotF_ok | apply eNot_ok | apply tOrF_ok | apply tAndF_ok | apply eOr_ok | apply eAnd_ok | apply eIf_ok | apply eOfT_ok | apply sSet_ok | apply sRet_ok | apply sExpr_ok | apply sSetIx_ok | apply int2_ok | rfl | (first | exact trivial | decide | omega | (simp only [List.length_cons, List.length_nil, Lim]; omega) | (refine ⟨?_, ?_⟩ <;> first | decide | omega) | (refine ⟨?_, ?_, ?_⟩ <;> first | decide | omega) | exact Or.inr (by refine ⟨?_, ?_⟩ <;> first | decide | omega) | exact Or.inl (by refine ⟨?_, ?_⟩ <;> first | decide | omega)))
    apply bif_f (decide_eq_false h0)
    rfl
  apply sSeq_ok
  · repeat' (first | apply u2_ok | apply u1_ok | apply t2_ok | apply un_ok | apply aCons_ok | apply eTup_ok | apply eLst_ok | apply tst_ok | apply tNotF_ok | apply eNot_ok | apply tOrF_ok | apply tAndF_ok | apply eOr_ok | apply eAnd_ok | apply eIf_ok | apply eOfT_ok | apply sSet_ok | apply sRet_ok | apply sExpr_ok | apply sSetIx_ok | apply int2_ok | rfl | (first | exact trivial | decide | omega | (simp only [List.length_cons, List.length_nil, Lim]; omega) | (refine ⟨?_, ?_⟩ <;> first | decide | omega) | (refine ⟨?_, ?_, ?_⟩ <;> first | decide | omega) | exact Or.inr (by refine ⟨?_, ?_⟩ <;> first | decide | omega) | exact Or.inl (by refine ⟨?_, ?_⟩ <;> first | decide | omega)))
  apply sSeq_ok
  · repeat' (first | apply u2_ok | apply u1_ok | apply t2_ok | apply un_ok | apply aCons_ok | apply eTup_ok | apply eLst_ok | apply tst_ok | apply tNotF_ok | apply eNot_ok | apply tOrF_ok | apply tAndF_ok | apply eOr_ok | apply eAnd_ok | apply eIf_ok | apply eOfT_ok | apply sSet_ok | apply sRet_ok | apply sExpr_ok | apply sSetIx_ok | apply int2_ok | rfl | (first | exact trivial | decide | omega | (simp only [List.length_cons, List.length_nil, Lim]; omega) | (refine ⟨?_, ?_⟩ <;> first | decide | omega) | (refine ⟨?_, ?_, ?_⟩ <;> first | decide | omega) | exact Or.inr (by refine ⟨?_, ?_⟩ <;> first | decide | omega) | exact Or.inl (by refine ⟨?_, ?_⟩ <;> first | decide | omega)))
  apply sSeq_ok
  · repeat' (first | apply u2_ok | apply u1_ok | apply t2_ok | apply un_ok | apply aCons_ok | apply eTup_ok | apply eLst_ok | apply tst_ok | apply tNotF_ok | apply eNot_ok | apply tOrF_ok | apply tAndF_ok | apply eOr_ok | apply eAnd_ok | apply eIf_ok | apply eOfT_ok | apply sSet_ok | apply sRet_ok | apply sExpr_ok | apply sSetIx_ok | apply int2_ok | rfl | (first | exact trivial | decide | omega | (simp only [List.length_cons, List.length_nil, Lim]; omega) | (refine ⟨?_, ?_⟩ <;> first | decide | omega) | (refine ⟨?_, ?_, ?_⟩ <;> first | decide | omega) | exact Or.inr (by refine ⟨?_, ?_⟩ <;> first | decide | omega) | exact Or.inl (by refine ⟨?_, ?_⟩ <;> first | decide | omega)))
  apply sSeq_ok
  · repeat' (first | apply u2_ok | apply u1_ok | apply t2_ok | apply un_ok | apply aCons_ok | apply eTup_ok | apply eLst_ok | apply tst_ok | apply tNotF_ok | apply eNot_ok | apply tOrF_ok | apply tAndF_ok | apply eOr_ok | apply eAnd_ok | apply eIf_ok | apply eOfT_ok | apply sSet_ok | apply sRet_ok | apply sExpr_ok | apply sSetIx_ok | apply int2_ok | rfl | (first | exact trivial | decide | omega | (simp only [List.length_cons, List.length_nil, Lim]; omega) | (refine ⟨?_, ?_⟩ <;> first | decide | omega) | (refine ⟨?_, ?_, ?_⟩ <;> first | decide | omega) | exact Or.inr (by refine ⟨?_, ?_⟩ <;> first | decide | omega) | exact Or.inl (by refine ⟨?_, ?_⟩ <;> first | decide | omega)))
    refine ⟨by decide, by decide, ?_⟩
    have q1 : 69621 * (p2 + 1) * (p2 + 1) ≤ 69621000000 * 1000000 := Int.mul_le_mul (by omega) (by omega) (by omega) (by omega)
    have q2 : 0 ≤ 69621 * (p2 + 1) * (p2 + 1) := Int.mul_nonneg (by omega) (by omega)
    have q3 := Int.emod_nonneg (((p1 * 48271 + 104729 * (p2 + 1) + 101) % 2147483629) ^ Int.toNat 5) (b := 2147483587) (by decide)
    have q4 := Int.emod_lt_of_pos (((p1 * 48271 + 104729 * (p2 + 1) + 101) % 2147483629) ^ Int.toNat 5) (b := 2147483587) (by decide)
    generalize ((p1 * 48271 + 104729 * (p2 + 1) + 101) % 2147483629) ^ Int.toNat 5 % 2147483587 = u at q3 q4 ⊢
    generalize 69621 * (p2 + 1) * (p2 + 1) = v at q1 q2 ⊢
    omega
  repeat' (first | apply u2_ok | apply u1_ok | apply t2_ok | apply un_ok | apply aCons_ok | apply eTup_ok | apply eLst_ok | apply tst_ok | apply tNotF_ok | apply eNot_ok | apply tOrF_ok | apply tAndF_ok | apply eOr_ok | apply eAnd_ok | apply eIf_ok | apply eOfT_ok | apply sSet_ok | apply sRet_ok | apply sExpr_ok | apply sSetIx_ok | apply int2_ok | rfl | (first | exact trivial | decide | omega | (simp only [List.length_cons, List.length_nil, Lim]; omega) | (refine ⟨?_, ?_⟩ <;> first | decide | omega) | (refine ⟨?_, ?_, ?_⟩ <;> first | decide | omega) | exact Or.inr (by refine ⟨?_, ?_⟩ <;> first | decide | omega) | exact Or.inl (by refine ⟨?_, ?_⟩ <;> first | decide | omega)))
/-- a pool that has drawn so often at most -/
def PoolAt (n : Int) (o : MO) : Prop := ∃ p0 p1 p2 : Int, o = .lst [.int p0, .int p1, .int p2] ∧ 0 ≤ p0 ∧ 0 ≤ p1 ∧ p1 < 1000000007 ∧ 0 ≤ p2 ∧ p2 ≤ n
theorem PoolAt.mono {n k : Int} {o : MO} (h : PoolAt n o) (l : n ≤ k) : PoolAt k o := by
  obtain ⟨p0, p1, p2, e, h0, h1, h2, h3, h4⟩ := h
  exact ⟨p0, p1, p2, e, h0, h1, h2, h3, by omega⟩
theorem take_ok {n m : Int} {o : MO} (h : PoolAt n o) (hn : n < 1000000) (hm : 0 < m) (hm' : m < 1073741824) :
    ∃ (d : Int) (o' : MO), d_l_take [.io o, .val (.int m)] = .rt (.int d) [o'] ∧ 0 ≤ d ∧ d < m ∧ PoolAt (n + 1) o' := by
  obtain ⟨p0, p1, p2, rfl, h0, h1, h2, h3, h4⟩ := h
  by_cases c : 0 < p0
  · exact ⟨_, _, take_pos p0 p1 p2 m c hm hm', Int.emod_nonneg _ (by omega), Int.emod_lt_of_pos _ hm, p0 / m, p1, p2, rfl, Int.ediv_nonneg h0 (by omega), h1, h2, h3, by omega⟩
  · obtain ⟨d, a, b, e⟩ := take_neg p0 p1 p2 m c h1 h2 h3 (by omega) hm hm'
    exact ⟨d, _, e, a, b, p0, p1, p2 + 1, rfl, h0, h1, h2, by omega, by omega⟩
theorem pool_ok (cs : List Int) (k : Nat) (hk : k < cs.length) (h16 : cs.length ≤ 16) : ∃ o, d_l_pool [.val (.list (cs.map .int)), .val (.int k)] = .rn o [] ∧ PoolAt 118786 o := by
  have at_k : ixD (.list (cs.map .int)) (.int k) = some (.val (.int cs[k])) := by
    have e : atI (cs.map PyData.int) (k : Int) = some (.int cs[k]) := by
      unfold atI ixN
      rw [if_pos (by omega), List.length_map, if_pos (by omega)]
      simp [hk]
    show (atI (cs.map PyData.int) (k : Int)).map OR.val = _
    rw [e]
    rfl
  have hh : ∀ x : Int, 0 ≤ x % 1000000007 ∧ x % 1000000007 < 1000000007 := fun x => ⟨Int.emod_nonneg _ (by omega), Int.emod_lt_of_pos _ (by omega)⟩
  suffices h : ∃ x y : Int, d_l_pool [.val (.list (cs.map .int)), .val (.int k)] = .rn (.lst [.int (if x > 0 then x else 0), .int (y % 1000000007), .int (7919 * k + 1)]) [] by
    obtain ⟨x, y, e⟩ := h
    refine ⟨.lst _, e, _, _, _, rfl, ?_, (hh y).1, (hh y).2, by omega, by omega⟩
    split <;> omega
  refine ⟨cs[k] - 10 ^ 18, cs[k], ?_⟩
  apply runD_rn (st := [])
  unfold g_l_pool
  apply sSeq_ok
  · repeat' (first | apply u2_ok | apply u1_ok | apply t2_ok | apply un_ok | apply aCons_ok | apply eTup_ok | apply eLst_ok | apply tst_ok | apply tNotF_ok | apply eNot_ok | apply tOrF_ok | apply tAndF_ok | apply eOr_ok | apply eAnd_ok | apply eIf_ok | apply eOfT_ok | apply sSet_ok | apply sRet_ok | apply sExpr_ok | apply sSetIx_ok | apply int2_ok | rfl | (first | exact trivial | decide | omega | (simp only [List.length_cons, List.length_nil, Lim]; omega) | (refine ⟨?_, ?_⟩ <;> first | decide | omega) | (refine ⟨?_, ?_, ?_⟩ <;> first | decide | omega) | exact Or.inr (by refine ⟨?_, ?_⟩ <;> first | decide | omega) | exact Or.inl (by refine ⟨?_, ?_⟩ <;> first | decide | omega)))
  apply sSeq_ok
  · apply sIf_ok
    · repeat' (first | apply u2_ok | apply u1_ok | apply t2_ok | apply un_ok | apply aCons_ok | apply eTup_ok | apply eLst_ok | apply tst_ok | apply tNotF_ok | apply eNot_ok | apply tOrF_ok | apply tAndF_ok | apply eOr_ok | apply eAnd_ok | apply eIf_ok | apply eOfT_ok | apply sSet_ok | apply sRet_ok | apply sExpr_ok | apply sSetIx_ok | apply int2_ok | rfl | (first | exact trivial | decide | omega | (simp only [List.length_cons, List.length_nil, Lim]; omega) | (refine ⟨?_, ?_⟩ <;> first | decide | omega) | (refine ⟨?_, ?_, ?_⟩ <;> first | decide | omega) | exact Or.inr (by refine ⟨?_, ?_⟩ <;> first | decide | omega) | exact Or.inl (by refine ⟨?_, ?_⟩ <;> first | decide | omega)))
    apply bif_t (decide_eq_true (show (k : Int) < ((cs.map PyData.int).length : Nat) by rw [List.length_map]; omega))
    apply sSet_ok
    · apply u2_ok
      · rfl
      · rfl
      · rfl
      · rfl
      · exact at_k
    · rfl
  apply sRetW_ok
  repeat' (first | apply u2_ok | apply u1_ok | apply t2_ok | apply un_ok | apply aCons_ok | apply eTup_ok | apply eLst_ok | apply tst_ok | apply tNotF_ok | apply eNot_ok | apply tOrF_ok | apply tAndF_ok | apply eOr_ok | apply eAnd_ok | apply eIf_ok | apply eOfT_ok | apply sSet_ok | apply sRet_ok | apply sExpr_ok | apply sSetIx_ok | apply int2_ok | rfl | (first | exact trivial | decide | omega | (simp only [List.length_cons, List.length_nil, Lim]; omega) | (refine ⟨?_, ?_⟩ <;> first | decide | omega) | (refine ⟨?_, ?_, ?_⟩ <;> first | decide | omega) | exact Or.inr (by refine ⟨?_, ?_⟩ <;> first | decide | omega) | exact Or.inl (by refine ⟨?_, ?_⟩ <;> first | decide | omega)))
/-- the things of other kinds -/
def odds : List PyData := [.none, .bool true, .bool false, .int 0, .int 1, .int 2, .int 3, .int (-1), .int (10 ^ 39), .str "", .str "a", .str "not", .str "some", .str "abcdefghi", .str "Ab", .str "a b", .tuple [], .tuple [.str "a"],
  .list [.str "a", .int 1], .dict [], .tuple [.str "a", .int 1], .tuple [.tuple [.str "a", .int 1]], .list [.tuple [.str "a", .int 1]], .tuple [.str "a", .bool true], .tuple [.str "not"], .tuple [.int 1, .int 2], .tuple [.tuple []], .str "a1"]
theorem odd_ok {n : Int} {o : MO} (h : PoolAt n o) (hn : n < 1000000) : ∃ (d : PyData) (o' : MO), d_l_odd [.io o] = .rt d [o'] ∧ d ∈ odds ∧ PoolAt (n + 1) o' := by
  obtain ⟨t, o', e, t0, t1, po⟩ := take_ok (m := 28) h hn (by omega) (by omega)
  obtain ⟨j, rfl⟩ := Int.eq_ofNat_of_zero_le t0
  have hj : j < odds.length := by show j < 28; omega
  have at_j : ixD (.list odds) (.int j) = some (.val odds[j]) := by
    have e : atI odds (j : Int) = some odds[j] := by
      unfold atI ixN
      rw [if_pos (by omega), if_pos (by omega)]
      simp [hj]
    show (atI odds (j : Int)).map OR.val = _
    rw [e]
    rfl
  refine ⟨odds[j], o', ?_, List.getElem_mem hj, po⟩
  apply runD_rt (st := [.io o'])
  unfold g_l_odd
  apply sSeq_ok
  · apply sSet_ok
    · apply eLst_ok
      · repeat' (first | apply u2_ok | apply u1_ok | apply t2_ok | apply un_ok | apply aCons_ok | apply eTup_ok | apply eLst_ok | apply tst_ok | apply tNotF_ok | apply eNot_ok | apply tOrF_ok | apply tAndF_ok | apply eOr_ok | apply eAnd_ok | apply eIf_ok | apply eOfT_ok | apply sSet_ok | apply sRet_ok | apply sExpr_ok | apply sSetIx_ok | apply int2_ok | rfl | (first | exact trivial | decide | omega | (simp only [List.length_cons, List.length_nil, Lim]; omega) | (refine ⟨?_, ?_⟩ <;> first | decide | omega) | (refine ⟨?_, ?_, ?_⟩ <;> first | decide | omega) | exact Or.inr (by refine ⟨?_, ?_⟩ <;> first | decide | omega) | exact Or.inl (by refine ⟨?_, ?_⟩ <;> first | decide | omega)))
      · rfl
      · (first | exact trivial | decide | omega | (simp only [List.length_cons, List.length_nil, Lim]; omega) | (refine ⟨?_, ?_⟩ <;> first | decide | omega) | (refine ⟨?_, ?_, ?_⟩ <;> first | decide | omega) | exact Or.inr (by refine ⟨?_, ?_⟩ <;> first | decide | omega) | exact Or.inl (by refine ⟨?_, ?_⟩ <;> first | decide | omega))
    · rfl
  apply sSeq_ok
  · apply sSet_ok
    · apply u2_ok
      · rfl
      · apply eLst_ok
        · repeat' (first | apply u2_ok | apply u1_ok | apply t2_ok | apply un_ok | apply aCons_ok | apply eTup_ok | apply eLst_ok | apply tst_ok | apply tNotF_ok | apply eNot_ok | apply tOrF_ok | apply tAndF_ok | apply eOr_ok | apply eAnd_ok | apply eIf_ok | apply eOfT_ok | apply sSet_ok | apply sRet_ok | apply sExpr_ok | apply sSetIx_ok | apply int2_ok | rfl | (first | exact trivial | decide | omega | (simp only [List.length_cons, List.length_nil, Lim]; omega) | (refine ⟨?_, ?_⟩ <;> first | decide | omega) | (refine ⟨?_, ?_, ?_⟩ <;> first | decide | omega) | exact Or.inr (by refine ⟨?_, ?_⟩ <;> first | decide | omega) | exact Or.inl (by refine ⟨?_, ?_⟩ <;> first | decide | omega)))
        · rfl
        · (first | exact trivial | decide | omega | (simp only [List.length_cons, List.length_nil, Lim]; omega) | (refine ⟨?_, ?_⟩ <;> first | decide | omega) | (refine ⟨?_, ?_, ?_⟩ <;> first | decide | omega) | exact Or.inr (by refine ⟨?_, ?_⟩ <;> first | decide | omega) | exact Or.inl (by refine ⟨?_, ?_⟩ <;> first | decide | omega))
      · rfl
      · rfl
      · rfl
    · rfl
  apply sRet_ok
  · apply u2_ok
    · rfl
    · apply eCall_ok
      · repeat' (first | apply u2_ok | apply u1_ok | apply t2_ok | apply un_ok | apply aCons_ok | apply eTup_ok | apply eLst_ok | apply tst_ok | apply tNotF_ok | apply eNot_ok | apply tOrF_ok | apply tAndF_ok | apply eOr_ok | apply eAnd_ok | apply eIf_ok | apply eOfT_ok | apply sSet_ok | apply sRet_ok | apply sExpr_ok | apply sSetIx_ok | apply int2_ok | rfl | (first | exact trivial | decide | omega | (simp only [List.length_cons, List.length_nil, Lim]; omega) | (refine ⟨?_, ?_⟩ <;> first | decide | omega) | (refine ⟨?_, ?_, ?_⟩ <;> first | decide | omega) | exact Or.inr (by refine ⟨?_, ?_⟩ <;> first | decide | omega) | exact Or.inl (by refine ⟨?_, ?_⟩ <;> first | decide | omega)))
      · rfl
      · rfl
      · decide
      · exact e
      · rfl
    · rfl
    · rfl
    · exact at_j
  · rfl
end G03
namespace G03
open PySem PySem.Spec PyProof.Rows L2 Px
def abc : List Nat := [97, 98, 99, 100, 101, 102, 103, 104, 105, 106, 107, 108, 109, 110, 111, 112, 113, 114, 115, 116, 117, 118, 119, 120, 121, 122]
theorem abc_tx : ("abcdefghijklmnopqrstuvwxyz" : Str) = tx abc := by decide +kernel
theorem ab_tx : ("ab" : Str) = tx [97, 98] := by decide +kernel
def W6 : List Str := ["not", "both", "either", "turned", "chain", "some"]
def NameL (l : List Nat) : Prop := 1 ≤ l.length ∧ l.length ≤ 8 ∧ ∀ c ∈ l, c ∈ abc
theorem eqv_str (x y : Str) : PyData.eqv (.str x) (.str y) = decide (x = y) := by
  unfold PyData.eqv
  by_cases h : x = y
  · subst h; simp
  · simp [h]
theorem in_strs (F : List Str) (x : Str) : inD (.str x) (.list (F.map .str)) = some (decide (x ∈ F)) := by
  have s : (scalD (.str x) && (F.map PyData.str).all scalD) = true := by
    rw [Bool.and_eq_true]
    exact ⟨rfl, by rw [List.all_map]; exact List.all_eq_true.mpr fun _ _ => rfl⟩
  show (if (scalD (.str x) && (F.map PyData.str).all scalD) = true then some ((F.map PyData.str).any fun z => PyData.eqv z (.str x)) else _) = _
  rw [if_pos s, List.any_map]
  congr 1
  by_cases h : x ∈ F
  · rw [decide_eq_true h, List.any_eq_true]
    exact ⟨x, h, by show PyData.eqv (.str x) (.str x) = true; rw [eqv_str]; exact decide_eq_true rfl⟩
  · rw [decide_eq_false h, List.any_eq_false]
    intro y hy
    show ¬ PyData.eqv (.str y) (.str x) = true
    rw [eqv_str, decide_eq_true_eq]
    intro e
    subst e
    exact h hy
theorem notIn_strs (F : List Str) (x : Str) : notInD (.str x) (.list (F.map .str)) = some (!decide (x ∈ F)) := by
  unfold notInD
  rw [in_strs]
  rfl
theorem sIx_small {n d t : Nat} (h : t ≤ n) : HT.sIx n d (some (t : Int)) = t := by
  rw [HT.sIx_nat]
  omega
theorem cut_to {α : Type} (l : List α) (t : Nat) (h : t ≤ l.length) : cutL l none (some (t : Int)) = l.take t := by
  unfold cutL
  rw [sIx_small h, HT.sIx_none, List.drop_zero, Nat.sub_zero]
theorem cut_from {α : Type} (l : List α) (t : Nat) (h : t ≤ l.length) : cutL l (some (t : Int)) none = l.drop t := by
  unfold cutL
  rw [sIx_small h, HT.sIx_none]
  exact List.take_of_length_le (by rw [List.length_drop]; exact Nat.le_refl _)
/-- one sign otherwise -/
theorem set_cut (l : List Nat) (t c : Nat) (h : t < l.length) : cutL l none (some (t : Int)) ++ [c] ++ cutL l (some ((t : Int) + 1)) none = l.set t c := by
  rw [cut_to l t (by omega), show ((t : Int) + 1) = ((t + 1 : Nat) : Int) by omega, cut_from l (t + 1) (by omega)]
  rw [List.set_eq_take_append_cons_drop, if_pos h]
  simp
theorem NameL.set {l : List Nat} (h : NameL l) {t c : Nat} (hc : c ∈ abc) : NameL (l.set t c) := by
  refine ⟨by rw [List.length_set]; exact h.1, by rw [List.length_set]; exact h.2.1, fun x hx => ?_⟩
  rcases List.mem_or_eq_of_mem_set hx with z | z
  · exact h.2.2 x z
  · rw [z]; exact hc
/-- where there are more of them than are in the way, one is free -/
theorem one_free {α : Type} [DecidableEq α] : ∀ (l F : List α), l.Nodup → F.length < l.length → ∃ x ∈ l, x ∉ F
  | [], F, _, h => absurd h (Nat.not_lt_zero _)
  | x :: l, F, nd, h => by
    by_cases hx : x ∈ F
    · have nd' := List.nodup_cons.mp nd
      have hl : (F.erase x).length = F.length - 1 := by rw [List.length_erase_of_mem hx]
      have hp : 0 < F.length := List.length_pos_of_mem hx
      obtain ⟨y, hy, hn⟩ := one_free l (F.erase x) nd'.2 (by rw [hl]; simp at h; omega)
      refine ⟨y, List.mem_cons_of_mem _ hy, fun z => ?_⟩
      by_cases e : y = x
      · subst e; exact nd'.1 hy
      · exact hn ((List.mem_erase_of_ne e).mpr z)
    · exact ⟨x, List.mem_cons_self, hx⟩
/-- the words that the law looks through -/
def cand (l : List Nat) (t : Nat) : List Str := tx l :: abc.map fun c => tx (l.set t c)
theorem cand_free {l : List Nat} {t : Nat} (ht : t < l.length) {F : List Str} (hF : F.length < 26) : ∃ x r, (cand l t).filter (fun x => !decide (x ∈ F)) = x :: r ∧ x ∉ F ∧ x ∈ cand l t := by
  have nd : (abc.map fun c => tx (l.set t c)).Nodup := by
    have : abc.Nodup := by decide
    refine List.Pairwise.map _ (fun a b hab e => hab ?_) this
    have e2 := tx_inj e
    have h1 : (l.set t a)[t]? = some a := List.getElem?_set_self ht
    rw [e2, List.getElem?_set_self ht] at h1
    exact (Option.some.inj h1).symm
  obtain ⟨y, hy, hn⟩ := one_free _ F nd (by rw [List.length_map]; exact hF)
  have hm : y ∈ (cand l t).filter (fun x => !decide (x ∈ F)) := List.mem_filter.mpr ⟨List.mem_cons_of_mem _ hy, by rw [decide_eq_false hn]; rfl⟩
  cases h : (cand l t).filter (fun x => !decide (x ∈ F)) with
  | nil => rw [h] at hm; cases hm
  | cons x r =>
    have hx : x ∈ (cand l t).filter (fun x => !decide (x ∈ F)) := by rw [h]; exact List.mem_cons_self
    obtain ⟨a, b⟩ := List.mem_filter.mp hx
    exact ⟨x, r, rfl, fun z => (by rw [decide_eq_true z] at b; cases b), a⟩
theorem cand_name {l : List Nat} {t : Nat} (h : NameL l) {x : Str} (hx : x ∈ cand l t) : ∃ k, x = tx k ∧ NameL k := by
  rcases List.mem_cons.mp hx with e | hx
  · exact ⟨l, e, h⟩
  · obtain ⟨c, hc, rfl⟩ := List.mem_map.mp hx
    exact ⟨_, rfl, h.set hc⟩
end G03
namespace G03
open PySem PySem.Spec PyProof.Rows L2 Px
/-- a take in a def whose pool stands in slot 0 -/
theorem etake {sl : Sls} {r : Sto} {o : MO} {n m : Int} {f : FE} (h0 : sl[0]? = some (.ref 0)) (hm : f sl (.io o :: r) = .ok (.val (.int m)) (.io o :: r)) (h : PoolAt n o) (hn : n < 1000000) (m0 : 0 < m) (m1 : m < 1073741824) :
    ∃ (d : Int) (o' : MO), eCall d_l_take [true, false] (aCons (eName 0) (aCons f aNil)) sl (.io o :: r) = .ok (.val (.int d)) (.io o' :: r) ∧ 0 ≤ d ∧ d < m ∧ PoolAt (n + 1) o' := by
  obtain ⟨d, o', e, d0, d1, p⟩ := take_ok h hn m0 m1
  refine ⟨d, o', ?_, d0, d1, p⟩
  have en : eName 0 sl (.io o :: r) = .ok (.bor 0) (.io o :: r) := by unfold eName; rw [h0]
  exact eCall_ok (es := [.bor 0, .val (.int m)]) (rs := [.inr 0, .inl (.int m)]) (as := [.io o, .val (.int m)]) (st1 := .io o :: r) (st2 := .io o :: r) (ns := [0]) (os := [o']) (aCons_ok en (aCons_ok hm rfl)) rfl rfl (by decide) e rfl
abbrev nsl (many : Nat) (L : List Nat) (s4 s5 s6 s7 s8 s9 s10 : Sl) : Sls := [.ref 0, .val (.int many), .val (.str (tx L)), .ref 1, s4, s5, s6, s7, s8, s9, s10]
/-- the signs of a word -/
theorem word_ok {many : Nat} {L : List Nat} {s4 s5 s6 s7 s8 s9 s10 : Sl} {o : MO} {F : MO} {n : Int} (hL : L ≠ []) (hL2 : L.length ≤ 26) (hLa : ∀ c ∈ L, c ∈ abc) (h : PoolAt n o) (hn : n < 900000) :
    ∃ (l : List Nat) (o' : MO), u1 (joinD "") (eLc [8] (iR1 (u2 addD (eD (.int 1)) (eCall d_l_take [true, false] (aCons (eName 0) (aCons (eD (.int 8)) aNil))))) (gN 8) tTrue (u2 ixD (eName 2) (eCall d_l_take [true, false] (aCons (eName 0) (aCons (un lenD (aCons (eName 2) aNil)) aNil))))) (nsl many L s4 s5 s6 s7 s8 s9 s10) [.io o, .live F] =
      .ok (.val (.str (tx l))) [.io o', .live F] ∧ NameL l ∧ PoolAt (n + 9) o' := by
  obtain ⟨d, o1, e1, d0, d1, p1⟩ := etake (sl := nsl many L s4 s5 s6 s7 s8 s9 s10) (r := [.live F]) (f := eD (.int 8)) rfl rfl h (by omega) (by omega) (by omega)
  have hlen : 0 < L.length := List.length_pos_iff.mpr hL
  have nn : (rngL 0 (1 + d).toNat).length = (1 + d).toNat := rngL_len _ _
  obtain ⟨es, st', g1, cs, o2, g2, g3, g4, g5, g6⟩ := lcGo_inv (h := gN 8) (t := tTrue) (f := u2 ixD (eName 2) (eCall d_l_take [true, false] (aCons (eName 0) (aCons (un lenD (aCons (eName 2) aNil)) aNil)))) (sl0 := wipeS (nsl many L s4 s5 s6 s7 s8 s9 s10) [8])
    (fun i acc st => ∃ (cs : List Nat) (o' : MO), acc = cs.map (fun c => .str (tx [c])) ∧ cs.length = i ∧ (∀ c ∈ cs, c ∈ L) ∧ st = [.io o', .live F] ∧ PoolAt (n + 1 + i) o') (rngL 0 (1 + d).toNat) 0 [] [.io o1, .live F] ⟨[], o1, rfl, rfl, (fun c hc => nomatch hc), rfl, by simpa using p1⟩ (by
      rintro i dd acc st hd ⟨cs, o2, rfl, hi, hcs, rfl, p2⟩
      have il : i < (1 + d).toNat := by
        have := (List.getElem?_eq_some_iff.mp hd).1
        rw [nn] at this
        exact this
      obtain ⟨t, o3, e3, t0, t1, p3⟩ := etake (sl := (wipeS (nsl many L s4 s5 s6 s7 s8 s9 s10) [8]).set 8 (.val dd)) (r := [.live F]) (m := L.length) (f := un lenD (aCons (eName 2) aNil)) rfl (by
        refine un_ok (r := .val (.int L.length)) (es := [.val (.str (tx L))]) (ds := [.str (tx L)]) ?_ rfl ?_
        · rfl
        · show (if (tx L).length ≤ Lim then some (OR.val (.int (tx L).length)) else none) = some (.val (.int L.length))
          rw [tx_len, if_pos (by unfold Lim; omega)]) p2 (by omega) (by omega) (by omega)
      obtain ⟨j, rfl⟩ := Int.eq_ofNat_of_zero_le t0
      have hj : j < L.length := by omega
      refine ⟨_, rfl, true, _, rfl, (fun z => nomatch z), fun _ => ⟨.val (.str (tx [L[j]])), [.io o3, .live F], .str (tx [L[j]]), [.io o3, .live F], ?_, rfl, cs ++ [L[j]], o3, by rw [List.map_append]; rfl, by rw [List.length_append, hi]; rfl, fun c hc => ?_, rfl, p3.mono (by omega)⟩⟩
      · exact u2_ok (r := .val (.str (tx [L[j]]))) rfl e3 rfl rfl (ix_tx hj (by unfold Lim; omega))
      · rcases List.mem_append.mp hc with z | z
        · exact hcs c z
        · rw [List.mem_singleton.mp z]; exact List.getElem_mem hj)
  rw [List.nil_append] at g2
  rw [nn] at g3
  have c1 : cs.length ≤ 8 := by omega
  refine ⟨cs, o2, ?_, ⟨by omega, c1, fun c hc => hLa c (g4 c hc)⟩, g6.mono (by rw [nn]; omega)⟩
  refine u1_ok (r := .val (.str (tx cs))) (e1 := .new (.lst es)) (a := .list es) (st1 := [.io o2, .live F]) ?_ rfl ?_
  · refine eLc_ok (ds := rngL 0 (1 + d).toNat) (st1 := [.io o1, .live F]) ?_ (by rw [g1, g5]) (by rw [g2, List.length_map]; unfold Lim; omega)
    refine iR1_ok (u2_ok (r := .val (.int (1 + d))) rfl e1 rfl rfl rfl) ⟨by omega, by omega⟩
  · rw [g2]
    exact joinD_tx (by omega)
end G03
namespace G03
open PySem PySem.Spec PyProof.Rows L2 Px
theorem atI_last {α : Type} (xs : List α) (x : α) : atI (xs ++ [x]) (-1) = some x := by
  have e : ixN (xs ++ [x]).length (-1) = some xs.length := by
    unfold ixN
    rw [if_neg (by omega), if_pos (by simp only [List.length_append, List.length_cons, List.length_nil]; omega)]
    congr 1
    rw [List.length_append]
    simp
    omega
  unfold atI
  rw [e]
  simp
def NameS (s : Str) : Prop := ∃ l, s = tx l ∧ NameL l
theorem stepB {many k : Nat} {L l : List Nat} {s5 s6 s8 s9 s10 : Sl} {o : MO} {n : Int} {ns : List Str} (h : PoolAt n o) (hn : n < 900000) (hl : NameL l) (hk : ns.length = k) (hns : ∀ s ∈ ns, NameS s) :
    ∃ (l' : List Nat) (o' : MO), sIf (tAndF (t2 gtD (eName 7) (eD (.int 0))) (t2 eqE (eCall d_l_take [true, false] (aCons (eName 0) (aCons (eD (.int 3)) aNil))) (eD (.int 0)))) (sSet false 4 (u2 ixD (eName 3) (u1 negD (eD (.int 1))))) sNext
      (nsl many L (.val (.str (tx l))) s5 s6 (.val (.int k)) s8 s9 s10) [.io o, .live (.lst ((W6 ++ ns).map .str))] = .nx (nsl many L (.val (.str (tx l'))) s5 s6 (.val (.int k)) s8 s9 s10) [.io o', .live (.lst ((W6 ++ ns).map .str))] ∧ NameL l' ∧ PoolAt (n + 1) o' := by
  have t7 : t2 gtD (eName 7) (eD (.int 0)) (nsl many L (.val (.str (tx l))) s5 s6 (.val (.int k)) s8 s9 s10) [.io o, .live (.lst ((W6 ++ ns).map .str))] = .ok (decide ((0 : Int) < k)) [.io o, .live (.lst ((W6 ++ ns).map .str))] := t2_ok rfl rfl rfl rfl rfl
  by_cases k0 : (0 : Int) < k
  · obtain ⟨d, o1, e1, d0, d1, p1⟩ := etake (sl := nsl many L (.val (.str (tx l))) s5 s6 (.val (.int k)) s8 s9 s10) (r := [.live (.lst ((W6 ++ ns).map .str))]) (f := eD (.int 3)) rfl rfl h (by omega) (by omega) (by omega)
    have tb : t2 eqE (eCall d_l_take [true, false] (aCons (eName 0) (aCons (eD (.int 3)) aNil))) (eD (.int 0)) (nsl many L (.val (.str (tx l))) s5 s6 (.val (.int k)) s8 s9 s10) [.io o, .live (.lst ((W6 ++ ns).map .str))] = .ok (d == 0) [.io o1, .live (.lst ((W6 ++ ns).map .str))] := t2_ok e1 rfl rfl rfl rfl
    have tt := tAndF_ok t7 (bif_t (decide_eq_true k0) tb)
    cases hd : d == 0 with
    | false =>
      rw [hd] at tt
      exact ⟨l, o1, (sIf_ok tt rfl), hl, p1⟩
    | true =>
      rw [hd] at tt
      obtain ⟨xs, x, rfl⟩ : ∃ xs x, ns = xs ++ [x] := by
        rcases List.eq_nil_or_concat ns with e | ⟨xs, x, e⟩
        · subst e; simp at hk; omega
        · exact ⟨xs, x, by simpa using e⟩
      obtain ⟨l', e', nl⟩ := hns x (by simp)
      refine ⟨l', o1, sIf_ok tt ?_, nl, p1⟩
      refine sSet_ok (e1 := .val (.str (tx l'))) (st1 := [.io o1, .live (.lst ((W6 ++ (xs ++ [x])).map .str))]) (u2_ok (r := .val (.str (tx l'))) (a := .list ((W6 ++ (xs ++ [x])).map .str)) (b := .int (-1)) rfl (u1_ok (r := .val (.int (-1))) rfl rfl rfl) rfl rfl ?_) rfl
      show (atI ((W6 ++ (xs ++ [x])).map PyData.str) (-1)).map OR.val = _
      rw [← List.append_assoc, List.map_append]
      show (atI ((W6 ++ xs).map PyData.str ++ [.str x]) (-1)).map OR.val = _
      rw [atI_last, e']
      rfl
  · have tt : tAndF (t2 gtD (eName 7) (eD (.int 0))) (t2 eqE (eCall d_l_take [true, false] (aCons (eName 0) (aCons (eD (.int 3)) aNil))) (eD (.int 0))) (nsl many L (.val (.str (tx l))) s5 s6 (.val (.int k)) s8 s9 s10) [.io o, .live (.lst ((W6 ++ ns).map .str))] = .ok false [.io o, .live (.lst ((W6 ++ ns).map .str))] := tAndF_ok t7 (bif_f (decide_eq_false k0) rfl)
    exact ⟨l, o, sIf_ok tt rfl, hl, h.mono (by omega)⟩
theorem signs_abc : Px.signs "abcdefghijklmnopqrstuvwxyz" = abc.map fun c => PyData.str (tx [c]) := by
  rw [abc_tx]
  rfl
/-- the words that are looked through -/
theorem stepD {many k t : Nat} {L l : List Nat} {s6 s8 s9 s10 : Sl} {st : Sto} (hl : NameL l) (ht : t < l.length) :
    u2 addD (eLst (aCons (eName 4) aNil)) (eLc [9] (iText (eD (.str "abcdefghijklmnopqrstuvwxyz"))) (gN 9) tTrue (u2 addD (u2 addD (eCut (eName 4) oNone (oInt (eName 5))) (eName 9)) (eCut (eName 4) (oInt (u2 addD (eName 5) (eD (.int 1)))) oNone)))
      (nsl many L (.val (.str (tx l))) (.val (.int t)) s6 (.val (.int k)) s8 s9 s10) st = .ok (.new (.lst ((cand l t).map .str))) st := by
  have l8 := hl.2.1
  have cutE : ∀ {lo hi : FO} {a b : Option Int} {sl : Sls}, sl[4]? = some (.val (.str (tx l))) → lo sl st = .ok a st → hi sl st = .ok b st → eCut (eName 4) lo hi sl st = .ok (.val (.str (tx (cutL l a b)))) st := fun {lo hi a b sl} h4 h1 h2 => by
    have e4 : eName 4 sl st = .ok (.val (.str (tx l))) st := by unfold eName; rw [h4]
    unfold eCut
    rw [e4]
    dsimp only
    rw [h1]
    dsimp only
    rw [h2]
    dsimp only [EV.dat]
    rw [cut_tx (by unfold Lim; omega)]
    rfl
  have go := lcGo_map (h := gN 9) (t := tTrue) (f := u2 addD (u2 addD (eCut (eName 4) oNone (oInt (eName 5))) (eName 9)) (eCut (eName 4) (oInt (u2 addD (eName 5) (eD (.int 1)))) oNone)) (sl0 := wipeS (nsl many L (.val (.str (tx l))) (.val (.int t)) s6 (.val (.int k)) s8 s9 s10) [9]) (st := st)
    (fun _ => true) (fun d => match d with | .str z => .str (tx (l.set t (z.cps.getD 0 0))) | d => d) (abc.map fun c => .str (tx [c])) (by
      intro d hd
      obtain ⟨c, hc, rfl⟩ := List.mem_map.mp hd
      refine ⟨_, rfl, rfl, fun _ => ⟨.val (.str (tx (l.set t c))), ?_, rfl⟩⟩
      have e1 := cutE (lo := oNone) (hi := oInt (eName 5)) (a := none) (b := some (t : Int)) (sl := (wipeS (nsl many L (.val (.str (tx l))) (.val (.int t)) s6 (.val (.int k)) s8 s9 s10) [9]).set 9 (.val (.str (tx [c])))) rfl rfl rfl
      have e2 := cutE (lo := oInt (u2 addD (eName 5) (eD (.int 1)))) (hi := oNone) (a := some ((t : Int) + 1)) (b := none) (sl := (wipeS (nsl many L (.val (.str (tx l))) (.val (.int t)) s6 (.val (.int k)) s8 s9 s10) [9]).set 9 (.val (.str (tx [c])))) rfl rfl rfl
      have lc : (cutL l none (some (t : Int)) ++ [c] ++ cutL l (some ((t : Int) + 1)) none).length = l.length := by rw [set_cut l t c ht, List.length_set]
      simp only [List.length_append] at lc
      have r1 := add_tx (a := cutL l none (some (t : Int))) (b := [c]) (by unfold Lim; omega)
      have r2 := add_tx (a := cutL l none (some (t : Int)) ++ [c]) (b := cutL l (some ((t : Int) + 1)) none) (by rw [List.length_append]; unfold Lim; omega)
      rw [set_cut l t c ht] at r2
      exact u2_ok (r := .val (.str (tx (l.set t c)))) (u2_ok (r := .val (.str (tx (cutL l none (some (t : Int)) ++ [c])))) e1 rfl rfl rfl r1) e2 rfl rfl r2)
  refine u2_ok (r := .new (.lst ((cand l t).map .str))) (e1 := .new (.lst [.str (tx l)])) (a := .list [.str (tx l)]) (e2 := .new (.lst (abc.map fun c => .str (tx (l.set t c))))) (b := .list (abc.map fun c => .str (tx (l.set t c)))) (eLst_ok (es := [.val (.str (tx l))]) rfl rfl (by show 1 ≤ Lim; decide)) ?_ rfl rfl ?_
  · refine eLc_ok (ds := abc.map fun c => .str (tx [c])) (st1 := st) ?_ ?_ (by rw [List.length_map]; decide)
    · show Re.ok (Px.signs "abcdefghijklmnopqrstuvwxyz") st = _
      rw [signs_abc]
    · rw [go]
      congr 2
  · show (if ([PyData.str (tx l)] : List PyData).length + (abc.map fun c => PyData.str (tx (l.set t c))).length ≤ Lim then some (OR.new (.lst ([PyData.str (tx l)] ++ abc.map fun c => PyData.str (tx (l.set t c))))) else none) = _
    rw [if_pos (by rw [List.length_map]; show 1 + 26 ≤ Lim; decide)]
    unfold cand
    rw [List.map_cons, List.map_map]
    rfl
end G03
namespace G03
open PySem PySem.Spec PyProof.Rows L2 Px
theorem ix_head (x : PyData) (xs : List PyData) : ixD (.list (x :: xs)) (.int 0) = some (.val x) := by
  have e : atI (x :: xs) 0 = some x := by
    unfold atI ixN
    rw [if_pos (by omega), if_pos (by rw [List.length_cons]; omega)]
    rfl
  show (atI (x :: xs) 0).map OR.val = _
  rw [e]
  rfl
/-- the first of those that aren't there, put to them -/
theorem stepE {many k t : Nat} {L l : List Nat} {s5 s8 s9 s10 : Sl} {o : MO} {F : List Str} (hF : F.length < 26) (hl : NameL l) (ht : t < l.length) :
    ∃ x : Str, sExpr (eApp (eName 3) (u2 ixD (eLc [10] (iSeq (eName 6)) (gN 10) (t2 notInD (eName 10) (eName 3)) (eName 10)) (eD (.int 0)))) (nsl many L (.val (.str (tx l))) s5 (.val (.list ((cand l t).map .str))) (.val (.int k)) s8 s9 s10) [.io o, .live (.lst (F.map .str))] =
      .nx (nsl many L (.val (.str (tx l))) s5 (.val (.list ((cand l t).map .str))) (.val (.int k)) s8 s9 s10) [.io o, .live (.lst ((F ++ [x]).map .str))] ∧ x ∉ F ∧ NameS x := by
  obtain ⟨x, r, hx, hn, hc⟩ := cand_free ht hF
  refine ⟨x, ?_, hn, cand_name hl hc⟩
  have go := lcGo_map (h := gN 10) (t := t2 notInD (eName 10) (eName 3)) (f := eName 10) (sl0 := wipeS (nsl many L (.val (.str (tx l))) s5 (.val (.list ((cand l t).map .str))) (.val (.int k)) s8 s9 s10) [10]) (st := [.io o, .live (.lst (F.map .str))])
    (fun d => match d with | .str z => !decide (z ∈ F) | _ => false) (fun d => d) ((cand l t).map .str) (by
      intro d hd
      obtain ⟨z, hz, rfl⟩ := List.mem_map.mp hd
      refine ⟨_, rfl, t2_ok (a := .str z) (b := .list (F.map .str)) rfl rfl rfl rfl (notIn_strs F z), fun _ => ⟨.val (.str z), rfl, rfl⟩⟩)
  have fl : ((cand l t).map PyData.str).filter (fun d => match d with | .str z => !decide (z ∈ F) | _ => false) = (x :: r).map .str := by
    rw [List.filter_map, ← hx]
    rfl
  rw [fl] at go
  have hlen : (x :: r).length ≤ 27 := by
    rw [← hx]
    refine Nat.le_trans (List.length_filter_le _ _) ?_
    unfold cand
    rw [List.length_cons, List.length_map]
    exact Nat.le_refl _
  refine sExpr_ok (e1 := .val .none) ?_
  have ge : u2 ixD (eLc [10] (iSeq (eName 6)) (gN 10) (t2 notInD (eName 10) (eName 3)) (eName 10)) (eD (.int 0)) (nsl many L (.val (.str (tx l))) s5 (.val (.list ((cand l t).map .str))) (.val (.int k)) s8 s9 s10) [.io o, .live (.lst (F.map .str))] = .ok (.val (.str x)) [.io o, .live (.lst (F.map .str))] := by
    refine u2_ok (r := .val (.str x)) (e1 := .new (.lst ((x :: r).map .str))) (a := .list ((x :: r).map .str)) ?_ rfl rfl rfl (ix_head _ _)
    refine eLc_ok (ds := (cand l t).map .str) (st1 := [.io o, .live (.lst (F.map .str))]) (iSeq_list rfl rfl) (by rw [go, List.map_id']) (by rw [List.length_map]; unfold Lim; omega)
  have en : eName 3 (nsl many L (.val (.str (tx l))) s5 (.val (.list ((cand l t).map .str))) (.val (.int k)) s8 s9 s10) [.io o, .live (.lst (F.map .str))] = .ok (.bor 1) [.io o, .live (.lst (F.map .str))] := rfl
  unfold eApp
  rw [en]
  dsimp only
  rw [if_neg (by intro z; exact nomatch (show (some (F.map PyData.str) : Option (List PyData)) = none from z)), ge]
  dsimp only [EV.fix]
  show (if (F.map PyData.str).length < Lim then Re.ok (EV.val .none) [Cell.io o, Cell.live (.lst (F.map PyData.str ++ [.str x]))] else Re.fail) = _
  rw [if_pos (by rw [List.length_map]; unfold Lim; omega), List.map_append]
  rfl
/-- so many unlike names -/
theorem names_ok {many : Nat} {o : MO} {n : Int} (h : PoolAt n o) (hn : n < 800000) (hm : many ≤ 3) : ∃ (ns : List Str) (o' : MO), d_l_names [.io o, .val (.int many)] = .rt (.list (ns.map .str)) [o'] ∧ ns.length = many ∧ (∀ s ∈ ns, NameS s) ∧ (W6 ++ ns).Nodup ∧ PoolAt (n + 1 + 12 * many) o' := by
  obtain ⟨d, o1, e1, d0, d1, p1⟩ := etake (sl := [.ref 0, .val (.int many), .non, .non, .non, .non, .non, .non, .non, .non, .non]) (r := []) (f := eD (.int 2)) rfl rfl h (by omega) (by omega) (by omega)
  obtain ⟨L, hL, hL2, hLa, e2⟩ : ∃ L : List Nat, L ≠ [] ∧ L.length ≤ 26 ∧ (∀ c ∈ L, c ∈ abc) ∧ u2 ixD (eLst (aCons (eD (.str "abcdefghijklmnopqrstuvwxyz")) (aCons (eD (.str "ab")) aNil))) (eCall d_l_take [true, false] (aCons (eName 0) (aCons (eD (.int 2)) aNil)))
      [.ref 0, .val (.int many), .non, .non, .non, .non, .non, .non, .non, .non, .non] [.io o] = .ok (.val (.str (tx L))) [.io o1] := by
    rcases (show d = 0 ∨ d = 1 by omega) with rfl | rfl
    · refine ⟨abc, by decide, by decide, fun c h => h, ?_⟩
      rw [← abc_tx]
      exact u2_ok (r := .val (.str "abcdefghijklmnopqrstuvwxyz")) (eLst_ok (aCons_ok rfl (aCons_ok rfl rfl)) rfl (by decide)) e1 rfl rfl rfl
    · refine ⟨[97, 98], by decide, by decide, by decide, ?_⟩
      rw [← ab_tx]
      exact u2_ok (r := .val (.str "ab")) (eLst_ok (aCons_ok rfl (aCons_ok rfl rfl)) rfl (by decide)) e1 rfl rfl rfl
  obtain ⟨sl', st', f1, s4, s5, s6, s7, s8, s9, s10, o2, ns, q1, q2, q3, q4, q5, q6⟩ := sFor_inv (h := gN 7) (b := sSeq (sSet false 4 (u1 (joinD "") (eLc [8] (iR1 (u2 addD (eD (.int 1)) (eCall d_l_take [true, false] (aCons (eName 0) (aCons (eD (.int 8)) aNil))))) (gN 8) tTrue (u2 ixD (eName 2) (eCall d_l_take [true, false] (aCons (eName 0) (aCons (un lenD (aCons (eName 2) aNil)) aNil)))))))
    (sSeq (sIf (tAndF (t2 gtD (eName 7) (eD (.int 0))) (t2 eqE (eCall d_l_take [true, false] (aCons (eName 0) (aCons (eD (.int 3)) aNil))) (eD (.int 0))))
    (sSet false 4 (u2 ixD (eName 3) (u1 negD (eD (.int 1)))))
    sNext)
    (sSeq (sSet false 5 (eCall d_l_take [true, false] (aCons (eName 0) (aCons (un lenD (aCons (eName 4) aNil)) aNil))))
    (sSeq (sSet false 6 (u2 addD (eLst (aCons (eName 4) aNil)) (eLc [9] (iText (eD (.str "abcdefghijklmnopqrstuvwxyz"))) (gN 9) tTrue (u2 addD (u2 addD (eCut (eName 4) oNone (oInt (eName 5))) (eName 9)) (eCut (eName 4) (oInt (u2 addD (eName 5) (eD (.int 1)))) oNone)))))
    (sExpr (eApp (eName 3) (u2 ixD (eLc [10] (iSeq (eName 6)) (gN 10) (t2 notInD (eName 10) (eName 3)) (eName 10)) (eD (.int 0)))))))))
    (fun k sl st => ∃ s4 s5 s6 s7 s8 s9 s10 o2 ns, sl = nsl many L s4 s5 s6 s7 s8 s9 s10 ∧ st = [.io o2, .live (.lst ((W6 ++ ns).map .str))] ∧ PoolAt (n + 1 + 12 * k) o2 ∧ ns.length = k ∧ (∀ s ∈ ns, NameS s) ∧ (W6 ++ ns).Nodup)
    (rngL 0 (many : Int).toNat) 0 (nsl many L .non .non .non .non .non .non .non) [.io o1, .live (.lst (W6.map .str))] ⟨_, _, _, _, _, _, _, o1, [], rfl, rfl, by simpa using p1, rfl, (fun _ h => nomatch h), by decide +kernel⟩ (by
      rintro i dd sl st hd ⟨s4, s5, s6, s7, s8, s9, s10, o2, ns, rfl, rfl, p2, hk, hns, nd⟩
      have il : i < many := by
        have := (List.getElem?_eq_some_iff.mp hd).1
        rw [rngL_len] at this
        simpa using this
      have hdd : dd = .int i := by
        obtain ⟨hi, e⟩ := List.getElem?_eq_some_iff.mp hd
        rw [← e]
        unfold rngL
        simp
      subst hdd
      have hk' : ns.length = i := by omega
      refine ⟨_, rfl, ?_⟩
      obtain ⟨l, o3, a1, a2, a3⟩ := word_ok (many := many) (L := L) (s4 := s4) (s5 := s5) (s6 := s6) (s7 := .val (.int i)) (s8 := s8) (s9 := s9) (s10 := s10) (F := .lst ((W6 ++ ns).map .str)) hL hL2 hLa p2 (by omega)
      obtain ⟨l2, o4, b1, b2, b3⟩ := stepB (many := many) (L := L) (s5 := s5) (s6 := s6) (s8 := s8) (s9 := s9) (s10 := s10) a3 (by omega) a2 hk' hns
      have l28 := b2.2.1
      have l21 := b2.1
      obtain ⟨t, o5, c1, c2, c3, c4⟩ := etake (sl := nsl many L (.val (.str (tx l2))) s5 s6 (.val (.int i)) s8 s9 s10) (r := [.live (.lst ((W6 ++ ns).map .str))]) (m := l2.length) (f := un lenD (aCons (eName 4) aNil)) rfl (by
        refine un_ok (r := .val (.int l2.length)) (es := [.val (.str (tx l2))]) (ds := [.str (tx l2)]) rfl rfl ?_
        show (if (tx l2).length ≤ Lim then some (OR.val (.int (tx l2).length)) else none) = some (.val (.int l2.length))
        rw [tx_len, if_pos (by unfold Lim; omega)]) b3 (by omega) (by omega) (by omega)
      obtain ⟨j, rfl⟩ := Int.eq_ofNat_of_zero_le c2
      have dd := stepD (many := many) (k := i) (t := j) (L := L) (s6 := s6) (s8 := s8) (s9 := s9) (s10 := s10) (st := [.io o5, .live (.lst ((W6 ++ ns).map .str))]) b2 (by omega)
      obtain ⟨x, g1, g2, g3⟩ := stepE (many := many) (k := i) (t := j) (L := L) (s5 := .val (.int j)) (s8 := s8) (s9 := s9) (s10 := s10) (o := o5) (F := W6 ++ ns) (by rw [List.length_append]; show 6 + ns.length < 26; omega) b2 (by omega)
      refine ⟨_, _, sSeq_ok (sSet_ok a1 rfl) (sSeq_ok b1 (sSeq_ok (sSet_ok c1 rfl) (sSeq_ok (sSet_ok dd rfl) g1))), _, _, _, _, _, _, _, o5, ns ++ [x], rfl, by rw [List.append_assoc], c4.mono (by omega), by rw [List.length_append, hk]; rfl, ?_, ?_⟩
      · intro s hs
        rcases List.mem_append.mp hs with z | z
        · exact hns s z
        · rw [List.mem_singleton.mp z]; exact g3
      · rw [← List.append_assoc]
        exact List.nodup_append.mpr ⟨nd, by simp, fun a ha b hb e => g2 (by rw [← List.mem_singleton.mp hb, ← e]; exact ha)⟩)
  rw [rngL_len] at q3 q4
  have mz : 0 + (many : Int).toNat = many := by omega
  rw [mz] at q3 q4
  subst q1 q2
  refine ⟨ns, o2, ?_, q4, q5, q6, q3⟩
  apply runD_rt (st := [.io o2, .live (.lst ((W6 ++ ns).map .str))])
  unfold g_l_names
  refine sSeq_ok (sSet_ok e2 rfl) (sSeq_ok (sl1 := nsl many L .non .non .non .non .non .non .non) (st1 := [.io o1, .live (.lst (W6.map .str))]) rfl (sSeq_ok (sForI_ok (iR1_ok (n := many) rfl ⟨by omega, by omega⟩) f1) ?_))
  refine sRet_ok (e1 := .new (.lst (ns.map .str))) (st1 := [.io o2, .live (.lst ((W6 ++ ns).map .str))]) ?_ rfl
  have en : eName 3 (nsl many L s4 s5 s6 s7 s8 s9 s10) [.io o2, .live (.lst ((W6 ++ ns).map .str))] = .ok (.bor 1) [.io o2, .live (.lst ((W6 ++ ns).map .str))] := rfl
  unfold eCut
  rw [en]
  show Re.ok (EV.new (.lst (cutL ((W6 ++ ns).map PyData.str) (some (6 : Nat)) none))) _ = _
  rw [cut_from _ 6 (by rw [List.length_map, List.length_append]; show 6 ≤ 6 + _; omega), List.map_append]
  rfl
end G03
namespace G03
open PySem PySem.Spec PyProof.Rows L2 Px
/-- one notion as data -/
def nd (p : Str × Int) : PyData := .tuple [.str p.1, .int p.2]
def NotP (p : Str × Int) : Prop := NameS p.1 ∧ (p.2 = 1 ∨ p.2 = 2)
theorem notions_ok {o : MO} {n : Int} (h : PoolAt n o) (hn : n < 700000) : ∃ (ps : List (Str × Int)) (o' : MO), d_l_notions [.io o] = .rt (.tuple (ps.map nd)) [o'] ∧ 1 ≤ ps.length ∧ ps.length ≤ 3 ∧ (∀ p ∈ ps, NotP p) ∧ (W6 ++ ps.map (·.1)).Nodup ∧ PoolAt (n + 50) o' := by
  obtain ⟨d, o1, e1, d0, d1, p1⟩ := etake (sl := [.ref 0, .non, .non]) (r := []) (f := eD (.int 3)) rfl rfl h (by omega) (by omega) (by omega)
  obtain ⟨j, rfl⟩ := Int.eq_ofNat_of_zero_le d0
  obtain ⟨ns, o2, e2, l2, q2, nd2, p2⟩ := names_ok (many := 1 + j) p1 (by omega) (by omega)
  have c1 : eCall d_l_names [true, false] (aCons (eName 0) (aCons (u2 addD (eD (.int 1)) (eCall d_l_take [true, false] (aCons (eName 0) (aCons (eD (.int 3)) aNil)))) aNil)) [.ref 0, .non, .non] [.io o] = .ok (.val (.list (ns.map .str))) [.io o2] := by
    have a2 : u2 addD (eD (.int 1)) (eCall d_l_take [true, false] (aCons (eName 0) (aCons (eD (.int 3)) aNil))) [.ref 0, .non, .non] [.io o] = .ok (.val (.int (1 + (j : Int)))) [.io o1] := u2_ok (r := .val (.int (1 + (j : Int)))) rfl e1 rfl rfl rfl
    refine eCall_ok (es := [.bor 0, .val (.int (1 + (j : Int)))]) (rs := [.inr 0, .inl (.int (1 + (j : Int)))]) (as := [.io o1, .val (.int (1 + (j : Int)))]) (st1 := [.io o1]) (st2 := [.io o1]) (ns := [0]) (os := [o2]) (aCons_ok (e1 := .bor 0) (st1 := [.io o]) rfl (aCons_ok (e1 := .val (.int (1 + (j : Int)))) (es := []) a2 rfl)) rfl rfl (by decide) ?_ rfl
    rw [show (1 + (j : Int)) = ((1 + j : Nat) : Int) by omega]
    exact e2
  obtain ⟨es, st', g1, ps, o3, g2, g3, g4, g5, g6⟩ := lcGo_inv (h := gN 2) (t := tTrue) (f := eTup (aCons (eName 2) (aCons (u2 addD (eD (.int 1)) (un intD (aCons (u2 (asB gtD) (eCall d_l_take [true, false] (aCons (eName 0) (aCons (eD (.int 3)) aNil))) (eD (.int 0))) aNil))) aNil)))
    (sl0 := wipeS [.ref 0, .val (.list (ns.map .str)), .non] [2]) (fun i acc st => ∃ (ps : List (Str × Int)) (o' : MO), acc = ps.map nd ∧ ps.map (·.1) = ns.take i ∧ (∀ p ∈ ps, p.2 = 1 ∨ p.2 = 2) ∧ st = [.io o'] ∧ PoolAt (n + 1 + 1 + 12 * (1 + j : Nat) + i) o') (ns.map .str) 0 [] [.io o2] ⟨[], o2, rfl, rfl, (fun _ h => nomatch h), rfl, by simpa using p2⟩ (by
      rintro i dd acc st hd ⟨ps, o3, rfl, hps, hp2, rfl, p3⟩
      rw [Nat.zero_add] at hps p3 ⊢
      have il : i < ns.length := by
        have := (List.getElem?_eq_some_iff.mp hd).1
        rw [List.length_map] at this
        exact this
      have hdd : dd = .str ns[i] := by
        obtain ⟨hi, e⟩ := List.getElem?_eq_some_iff.mp hd
        rw [← e, List.getElem_map]
      subst hdd
      obtain ⟨t, o4, t1, t2, t3, t4⟩ := etake (sl := [.ref 0, .val (.list (ns.map .str)), .val (.str ns[i])]) (r := []) (f := eD (.int 3)) rfl rfl p3 (by omega) (by omega) (by omega)
      have tb : u2 (asB gtD) (eCall d_l_take [true, false] (aCons (eName 0) (aCons (eD (.int 3)) aNil))) (eD (.int 0)) [.ref 0, .val (.list (ns.map .str)), .val (.str ns[i])] [.io o3] = .ok (.val (.bool (decide (0 < t)))) [.io o4] := u2_ok (r := .val (.bool (decide (0 < t)))) t1 rfl rfl rfl rfl
      have ti : u2 addD (eD (.int 1)) (un intD (aCons (u2 (asB gtD) (eCall d_l_take [true, false] (aCons (eName 0) (aCons (eD (.int 3)) aNil))) (eD (.int 0))) aNil)) [.ref 0, .val (.list (ns.map .str)), .val (.str ns[i])] [.io o3] = .ok (.val (.int (1 + if decide (0 < t) = true then 1 else 0))) [.io o4] :=
        u2_ok (r := .val (.int (1 + if decide (0 < t) = true then 1 else 0))) rfl (un_ok (r := .val (.int (if decide (0 < t) = true then 1 else 0))) (aCons_ok tb rfl) rfl rfl) rfl rfl rfl
      refine ⟨_, rfl, true, _, rfl, (fun z => nomatch z), fun _ => ⟨.val (nd (ns[i], 1 + if decide (0 < t) = true then 1 else 0)), [.io o4], _, [.io o4], eTup_ok (aCons_ok rfl (aCons_ok ti rfl)) rfl (by show 2 ≤ Lim; decide), rfl, ps ++ [(ns[i], 1 + if decide (0 < t) = true then 1 else 0)], o4, by rw [List.map_append]; rfl, ?_, ?_, rfl, t4.mono (by omega)⟩⟩
      · rw [List.map_append, hps, List.take_add_one, List.getElem?_eq_getElem il]
        rfl
      · intro p hp
        rcases List.mem_append.mp hp with z | z
        · exact hp2 p z
        · rw [List.mem_singleton.mp z]
          show (1 + if decide (0 < t) = true then (1 : Int) else 0) = 1 ∨ (1 + if decide (0 < t) = true then (1 : Int) else 0) = 2
          split <;> omega)
  rw [List.nil_append] at g2
  rw [Nat.zero_add, List.length_map] at g3 g6
  rw [List.take_length] at g3
  have lp : ps.length = 1 + j := by
    have := congrArg List.length g3
    rw [List.length_map, l2] at this
    exact this
  refine ⟨ps, o3, ?_, by omega, by omega, fun p hp => ⟨q2 p.1 (by rw [← g3]; exact List.mem_map_of_mem hp), g4 p hp⟩, by rw [g3]; exact nd2, g6.mono (by omega)⟩
  apply runD_rt (st := [.io o3])
  unfold g_l_notions
  refine sSeq_ok (sSet_ok c1 rfl) (sRet_ok (e1 := .val (.tuple (ps.map nd))) (st1 := [.io o3]) ?_ rfl)
  refine un_ok (r := .val (.tuple (ps.map nd))) (es := [.val (.list es)]) (ds := [.list es]) (st1 := [.io o3]) ?_ rfl ?_
  · refine aCons_ok (e1 := .new (.lst es)) (es := []) ?_ rfl
    exact eLc_ok (ds := ns.map .str) (st1 := [.io o2]) (iSeq_list rfl rfl) (by rw [← g5]; exact g1) (by rw [g2, List.length_map]; unfold Lim; omega)
  · rw [g2]
    rfl
end G03
namespace G03
open PySem PySem.Spec PyProof.Rows L2 Px
theorem pickL_map {α β : Type} (f : α → β) (xs : List α) (lo hi st : Option Int) : pickL (xs.map f) lo hi st = (pickL xs lo hi st).map f := by
  unfold pickL
  rw [List.length_map]
  generalize sliceRange _ _ _ = ks
  induction ks with
  | nil => rfl
  | cons k ks ih =>
    by_cases hk : k < xs.length
    · rw [List.filterMap_cons_some (b := f xs[k]) (by simp [hk]), List.filterMap_cons_some (List.getElem?_eq_getElem hk), ih, List.map_cons]
    · rw [List.filterMap_cons_none (by simp; omega), List.filterMap_cons_none (List.getElem?_eq_none (by omega)), ih]
theorem intsOf_map : ∀ l : List Int, intsOf (l.map .int) = some l
  | [] => rfl
  | i :: l => by
    show (intsOf (l.map .int)).map (i :: ·) = _
    rw [intsOf_map l]
    rfl
theorem folded_ok (ns : List Int) (h63 : ns.length ≤ 63) : ∃ cs : List Int, d_l_folded [.val (.list (ns.map .int)), .val (.int 8)] = .rt (.list (cs.map .int)) [] ∧ 1 ≤ cs.length ∧ cs.length ≤ 8 := by
  obtain ⟨q, hq, hmin⟩ : ∃ q : Int, q ≤ 8 ∧ minD [.int 8, .int ns.length] = some (.val (.int q)) := ⟨if (ns.length : Int) < 8 then (ns.length : Int) else 8, by split <;> omega, rfl⟩
  obtain ⟨m, m1, m2, hmax⟩ : ∃ m : Int, 1 ≤ m ∧ m ≤ 8 ∧ maxD [.int 1, .int q] = some (.val (.int m)) := ⟨if q > 1 then q else 1, by split <;> omega, by split <;> omega, rfl⟩
  have e1 : un maxD (aCons (eD (.int 1)) (aCons (un minD (aCons (eName 1) (aCons (un lenD (aCons (eName 0) aNil)) aNil))) aNil)) [.val (.list (ns.map .int)), .val (.int 8), .non] [] = .ok (.val (.int m)) [] := by
    refine un_ok (r := .val (.int m)) (es := [.val (.int 1), .val (.int q)]) (ds := [.int 1, .int q]) (aCons_ok (e1 := .val (.int 1)) (st1 := []) rfl (aCons_ok (e1 := .val (.int q)) (es := []) ?_ rfl)) rfl hmax
    refine un_ok (r := .val (.int q)) (es := [.val (.int 8), .val (.int ns.length)]) (ds := [.int 8, .int ns.length]) (aCons_ok (e1 := .val (.int 8)) (st1 := []) rfl (aCons_ok (e1 := .val (.int ns.length)) (es := []) ?_ rfl)) rfl hmin
    refine un_ok (r := .val (.int ns.length)) (es := [.val (.list (ns.map .int))]) (ds := [.list (ns.map .int)]) (aCons_ok (e1 := .val (.list (ns.map .int))) (st1 := []) (es := []) rfl rfl) rfl ?_
    show some (OR.val (.int (ns.map PyData.int).length)) = _
    rw [List.length_map]
  have go := lcGo_map (h := gN 2) (t := tTrue) (f := un sumD (aCons (eCut3 (eName 0) (oInt (eName 2)) (oInt (eD (.int 63))) (oInt (eName 1))) aNil)) (sl0 := wipeS [.val (.list (ns.map .int)), .val (.int 8), .non] [2]) (st := [])
    (fun _ => true) (fun d => match d with | .int k => .int (pickL ns (some k) (some 63) (some 8)).sum | d => d) (rngL 0 m.toNat) (by
      intro d hd
      unfold rngL at hd
      obtain ⟨i, hi, rfl⟩ := List.mem_map.mp hd
      refine ⟨_, rfl, rfl, fun _ => ⟨.val (.int (pickL ns (some (0 + (i : Int))) (some 63) (some 8)).sum), ?_, rfl⟩⟩
      refine un_ok (r := .val (.int (pickL ns (some (0 + (i : Int))) (some 63) (some 8)).sum)) (es := [.val (.list ((pickL ns (some (0 + (i : Int))) (some 63) (some 8)).map .int))]) (ds := [.list ((pickL ns (some (0 + (i : Int))) (some 63) (some 8)).map .int)]) (aCons_ok (e1 := .new (.lst ((pickL ns (some (0 + (i : Int))) (some 63) (some 8)).map .int))) (es := []) ?_ rfl) rfl ?_
      · show Re.ok (EV.new (.lst (pickL (ns.map PyData.int) (some (0 + (i : Int))) (some 63) (some 8)))) [] = _
        rw [pickL_map]
      · show (intsOf ((pickL ns (some (0 + (i : Int))) (some 63) (some 8)).map .int)).map (fun bs => OR.val (.int bs.sum)) = _
        rw [intsOf_map]
        rfl)
  rw [List.filter_eq_self.mpr (fun _ _ => rfl)] at go
  refine ⟨(List.range m.toNat).map fun (i : Nat) => (pickL ns (some (0 + (i : Int))) (some 63) (some 8)).sum, ?_, by rw [List.length_map, List.length_range]; omega, by rw [List.length_map, List.length_range]; omega⟩
  apply runD_rt (st := [])
  unfold g_l_folded
  refine sRet_ok (e1 := .new (.lst (((List.range m.toNat).map fun (i : Nat) => (pickL ns (some (0 + (i : Int))) (some 63) (some 8)).sum).map .int))) (st1 := []) (eLc_ok (ds := rngL 0 m.toNat) (st1 := []) (iR1_ok e1 ⟨by omega, by omega⟩) ?_ (by rw [List.length_map, List.length_map, List.length_range]; unfold Lim; omega)) rfl
  refine go.trans ?_
  unfold rngL
  rw [List.map_map, List.map_map]
  rfl
end G03
namespace G03
open PySem PySem.Spec PyProof.Rows L2 Px
theorem kinds_tuple : (["NoneType", "bool", "int", "str", "list", "tuple", "dict"] : List String).map (kitB · "tuple") = [some false, some false, some false, some false, some false, some true, some false] := by decide +kernel
theorem kinds_str : (["NoneType", "bool", "int", "str", "list", "tuple", "dict"] : List String).map (kitB · "str") = [some false, some false, some false, some true, some false, some false, some false] := by decide +kernel
theorem kinds_int : (["NoneType", "bool", "int", "str", "list", "tuple", "dict"] : List String).map (kitB · "int") = [some false, some true, some true, some false, some false, some false, some false] := by decide +kernel
theorem kinds_bool : (["NoneType", "bool", "int", "str", "list", "tuple", "dict"] : List String).map (kitB · "bool") = [some false, some true, some false, some false, some false, some false, some false] := by decide +kernel
def asTup : PyData → Bool | .tuple _ => true | _ => false
def asStr : PyData → Bool | .str _ => true | _ => false
def asInt : PyData → Bool | .int _ => true | .bool _ => true | _ => false
def asBl : PyData → Bool | .bool _ => true | _ => false
theorem is_of {T : String} {f : PyData → Bool} {a0 a1 a2 a3 a4 a5 a6 : Bool} (h : (["NoneType", "bool", "int", "str", "list", "tuple", "dict"] : List String).map (kitB · T) = [some a0, some a1, some a2, some a3, some a4, some a5, some a6])
    (g : ∀ d, f d = match d with | .none => a0 | .bool _ => a1 | .int _ => a2 | .str _ => a3 | .list _ => a4 | .tuple _ => a5 | .dict _ => a6) (d : PyData) : isD T d = some (.val (.bool (f d))) := by
  simp only [List.map_cons, List.map_nil, List.cons.injEq, and_true] at h
  obtain ⟨h0, h1, h2, h3, h4, h5, h6⟩ := h
  rw [g]
  unfold isD
  cases d with
  | none => show (kitB "NoneType" T).map _ = _; rw [h0]; rfl
  | bool _ => show (kitB "bool" T).map _ = _; rw [h1]; rfl
  | int _ => show (kitB "int" T).map _ = _; rw [h2]; rfl
  | str _ => show (kitB "str" T).map _ = _; rw [h3]; rfl
  | list _ => show (kitB "list" T).map _ = _; rw [h4]; rfl
  | tuple _ => show (kitB "tuple" T).map _ = _; rw [h5]; rfl
  | dict _ => show (kitB "dict" T).map _ = _; rw [h6]; rfl
theorem is_tup (d : PyData) : isD "tuple" d = some (.val (.bool (asTup d))) := is_of kinds_tuple (fun d => by cases d <;> rfl) d
theorem is_str (d : PyData) : isD "str" d = some (.val (.bool (asStr d))) := is_of kinds_str (fun d => by cases d <;> rfl) d
theorem is_int (d : PyData) : isD "int" d = some (.val (.bool (asInt d))) := is_of kinds_int (fun d => by cases d <;> rfl) d
theorem is_bl (d : PyData) : isD "bool" d = some (.val (.bool (asBl d))) := is_of kinds_bool (fun d => by cases d <;> rfl) d
theorem t3_ok {c1 c2 : PyData → PyData → Option Bool} {f1 f2 f3 : FE} {sl : Sls} {st st1 st2 : Sto} {e1 e3 : EV} {a b c : PyData} {x y : Bool} (h1 : f1 sl st = .ok e1 st1) (h2 : f2 sl st1 = .ok (.val b) st2) (d1 : e1.dat st2 = some a) (k1 : c1 a b = some x) (h3 : f3 sl st2 = .ok e3 st2) (d3 : e3.dat st2 = some c) (k2 : c2 b c = some y) :
    t3 c1 c2 f1 f2 f3 sl st = .ok (x && y) st2 := by
  unfold t3
  rw [h1]
  dsimp only
  rw [h2]
  dsimp only
  rw [d1]
  dsimp only
  rw [k1]
  cases x with
  | false => rfl
  | true =>
    dsimp only
    rw [h3]
    dsimp only
    rw [d3]
    dsimp only
    rw [k2]
    rfl
/-! ### names, as the law looks at them -/
end G03
namespace G03
open PySem PySem.Spec PyProof.Rows L2 Px
/-! ### notions, as the law looks at them -/
def nmOf : PyData → Str | .tuple (.str s :: _) => s | _ => ""
end G03
namespace G03
open PySem PySem.Spec PyProof.Rows L2 Px
theorem in_strsT (F : List Str) (x : Str) : inD (.str x) (.tuple (F.map .str)) = some (decide (x ∈ F)) := by
  have h := in_strs F x
  have s : (scalD (.str x) && (F.map PyData.str).all scalD) = true := by
    rw [Bool.and_eq_true]
    exact ⟨rfl, by rw [List.all_map]; exact List.all_eq_true.mpr fun _ _ => rfl⟩
  have h' : (if (scalD (.str x) && (F.map PyData.str).all scalD) = true then some ((F.map PyData.str).any fun z => PyData.eqv z (.str x)) else if (okEq (.str x) && okEq (.list (F.map .str))) = true then some ((F.map PyData.str).any fun z => PyData.eqv z (.str x)) else none) = some (decide (x ∈ F)) := h
  rw [if_pos s] at h'
  show (if (scalD (.str x) && (F.map PyData.str).all scalD) = true then some ((F.map PyData.str).any fun z => PyData.eqv z (.str x)) else none) = _
  rw [if_pos s]
  exact h'
theorem bools_map {α : Type} (f : α → Bool) : ∀ l : List α, bools (l.map fun x => .bool (f x)) = some (l.map f)
  | [] => rfl
  | x :: l => by
    show (bools (l.map fun x => .bool (f x))).map (f x :: ·) = _
    rw [bools_map f l]
    rfl
end G03
namespace G03
open PySem PySem.Spec PyProof.Rows L2 Px
/-! ### is_notions tells what the law's own look tells -/
end G03
namespace G03
open PySem PySem.Spec PyProof.Rows L2 Px PySem.Builtin PySem.Builtin.Str
/-! ### things that are of some size, spoilt so often -/
def Low (s : Str) : Prop := ∀ c ∈ s.cps.toList, c < 128
def Atom (m : Nat) : PyData → Prop
  | .none => True
  | .bool _ => True
  | .int i => i.natAbs ≤ 10 ^ 39 + 3 + 3 * m
  | .str s => s.length ≤ 160 + m ∧ Low s
  | .dict [] => True
  | _ => False
def wd (n : Nat) : Nat := if n ≤ 2 then 2 else if n ≤ 5 then 3 else 4
theorem wd_mono {n k : Nat} (h : n ≤ k) : wd n ≤ wd k := by
  unfold wd
  repeat' split
  all_goals omega
theorem wd_le (n : Nat) : 2 ≤ wd n ∧ wd n ≤ 4 := by
  unfold wd
  repeat' split
  all_goals omega
def Sz (m : Nat) : Nat → PyData → Prop
  | 0, d => Atom m d
  | n + 1, d => Atom m d ∨ ∃ ds, (d = .list ds ∨ d = .tuple ds) ∧ ds.length ≤ wd (n + 1) + m ∧ ∀ e ∈ ds, Sz m n e
theorem Atom.mono {m k : Nat} (h : m ≤ k) : ∀ {d : PyData}, Atom m d → Atom k d
  | .none, _ => trivial
  | .bool _, _ => trivial
  | .int i, a => by show i.natAbs ≤ _; have : i.natAbs ≤ 10 ^ 39 + 3 + 3 * m := a; omega
  | .str s, a => ⟨by have := a.1; omega, a.2⟩
  | .dict [], _ => trivial
  | .dict (_ :: _), a => a.elim
  | .list _, a => a.elim
  | .tuple _, a => a.elim
theorem Sz.mono {m k : Nat} (h : m ≤ k) : ∀ {n j : Nat} {d : PyData}, n ≤ j → Sz m n d → Sz k j d
  | 0, 0, _, _, a => Atom.mono h a
  | 0, _ + 1, _, _, a => .inl (Atom.mono h a)
  | n + 1, 0, _, l, _ => absurd l (by omega)
  | n + 1, j + 1, d, l, a => by
    rcases a with a | ⟨ds, e, z, q⟩
    · exact .inl (Atom.mono h a)
    · exact .inr ⟨ds, e, by have := wd_mono (n := n + 1) (k := j + 1) (by omega); omega, fun x hx => Sz.mono h (by omega) (q x hx)⟩
/-- how long its text is at most -/
def Bd (m : Nat) : Nat → Nat
  | 0 => 700
  | n + 1 => (wd (n + 1) + m) * (Bd m n + 2) + 3
theorem rc_ok : ∀ q ∈ [34, 39], ∀ c < 128, ∀ x ∈ reprChar q c, x < 0x110000 := by decide +kernel
theorem quote_in (x : Str) : reprQuote x ∈ [34, 39] := by
  unfold reprQuote
  split <;> simp
theorem fold_ok (q : Nat) (hq : q ∈ [34, 39]) : ∀ (l : List Nat) (acc : Array Nat), (∀ c ∈ l, c < 128) → (∀ c ∈ acc.toList, c < 0x110000) → ∀ c ∈ (l.foldl (fun out c => out ++ (reprChar q c).toArray) acc).toList, c < 0x110000
  | [], acc, _, h => h
  | c :: l, acc, h1, h2 => by
    rw [List.foldl_cons]
    refine fold_ok q hq l _ (fun d hd => h1 d (List.mem_cons_of_mem _ hd)) fun d hd => ?_
    rw [Array.toList_append] at hd
    rcases List.mem_append.mp hd with z | z
    · exact h2 d z
    · exact rc_ok q hq c (h1 c List.mem_cons_self) d (by simpa using z)
theorem repr_ok {s : Str} (h : Low s) : PyData.strOk (reprText s) = true := by
  rw [strOk_iff]
  intro c hc
  unfold reprText at hc
  have hc' : c ∈ ((s.cps.foldl (fun out c => out ++ (reprChar (reprQuote s) c).toArray) #[reprQuote s]).push (reprQuote s)).toList := hc
  have q : reprQuote s < 0x110000 := by
    have := quote_in s
    simp at this
    omega
  rw [Array.toList_push, ← Array.foldl_toList] at hc'
  rcases List.mem_append.mp hc' with z | z
  · exact fold_ok _ (quote_in s) s.cps.toList #[reprQuote s] h (by intro d hd; simp at hd; rw [hd]; exact q) c z
  · rw [List.mem_singleton.mp z]; exact q
theorem rc_len : ∀ q ∈ [34, 39], ∀ c < 128, (reprChar q c).length ≤ 4 := by decide +kernel
theorem fold_len' (q : Nat) (hq : q ∈ [34, 39]) : ∀ (l : List Nat) (acc : Array Nat), (∀ c ∈ l, c < 128) → (l.foldl (fun out c => out ++ (reprChar q c).toArray) acc).size ≤ acc.size + 4 * l.length
  | [], acc, _ => by simp
  | c :: l, acc, h1 => by
    rw [List.foldl_cons]
    refine Nat.le_trans (fold_len' q hq l _ fun d hd => h1 d (List.mem_cons_of_mem _ hd)) ?_
    have := rc_len q hq c (h1 c List.mem_cons_self)
    have z : (reprChar q c).toArray.size = (reprChar q c).length := List.size_toArray ..
    rw [Array.size_append, z, List.length_cons]
    omega
theorem repr_len {s : Str} (h : Low s) : (reprText s).length ≤ 4 * s.length + 2 := by
  have e : (reprText s).length = ((s.cps.foldl (fun out c => out ++ (reprChar (reprQuote s) c).toArray) #[reprQuote s]).push (reprQuote s)).size := rfl
  rw [e, Array.size_push, ← Array.foldl_toList]
  have := fold_len' _ (quote_in s) s.cps.toList #[reprQuote s] h
  have l : s.cps.toList.length = s.length := Array.length_toList
  rw [l] at this
  have z : (#[reprQuote s] : Array Nat).size = 1 := rfl
  omega
theorem int_low (i : Int) : Low (toString i : String) := fun c hc => by
  refine Classical.byContradiction fun h => ?_
  exact int_text_free' c ⟨by omega, by omega⟩ i hc
end G03
namespace G03
open PySem PySem.Spec PyProof.Rows L2 Px PySem.Builtin PySem.Builtin.Str
theorem textFrom_up (B : Nat) : ∀ (ts : List Str) (k : Nat) (acc : Str), (∀ t ∈ ts, t.length ≤ B ∧ PyData.strOk t = true) → PyData.strOk acc = true →
    (textFrom k acc ts).length ≤ acc.length + ts.length * (B + 2) ∧ PyData.strOk (textFrom k acc ts) = true
  | [], k, acc, _, h => ⟨by show acc.length ≤ _; omega, h⟩
  | t :: ts, k, acc, h, ha => by
    obtain ⟨h1, h2⟩ := h t List.mem_cons_self
    have sep : ∀ b : Bool, PyData.strOk ((if b then ", " else "" : String) : Str) = true ∧ (((if b then ", " else "" : String) : Str)).length ≤ 2 := by decide +kernel
    have e : ((if k > 0 then ", " else "" : String) : Str) = ((if decide (k > 0) then ", " else "" : String) : Str) := by
      by_cases q : k > 0
      · rw [if_pos q, if_pos (decide_eq_true q)]
      · rw [if_neg q, if_neg (by rw [decide_eq_false q]; exact Bool.false_ne_true)]
    obtain ⟨s1, s2⟩ := sep (decide (k > 0))
    rw [← e] at s1 s2
    obtain ⟨g1, g2⟩ := textFrom_up B ts (k + 1) (acc ++ (if k > 0 then ", " else "" : String) ++ t) (fun x hx => h x (List.mem_cons_of_mem _ hx)) (strOk_app (strOk_app ha s1) h2)
    refine ⟨?_, g2⟩
    show (textFrom (k + 1) (acc ++ (if k > 0 then ", " else "" : String) ++ t) ts).length ≤ _
    rw [strLen_append, strLen_append] at g1
    rw [List.length_cons, Nat.add_mul]
    omega
theorem join_up (B : Nat) : ∀ (ts : List Str), (∀ t ∈ ts, t.length ≤ B ∧ PyData.strOk t = true) → (Str.join ", " ts).length ≤ ts.length * (B + 2) ∧ PyData.strOk (Str.join ", " ts) = true
  | [], _ => ⟨by show 0 ≤ _; omega, by decide +kernel⟩
  | [x], h => by
    obtain ⟨h1, h2⟩ := h x List.mem_cons_self
    exact ⟨by show x.length ≤ 1 * (B + 2); omega, h2⟩
  | x :: y :: r, h => by
    obtain ⟨h1, h2⟩ := h x List.mem_cons_self
    obtain ⟨g1, g2⟩ := join_up B (y :: r) fun t ht => h t (List.mem_cons_of_mem _ ht)
    have s1 : PyData.strOk (", " : Str) = true := by decide +kernel
    have s2 : (", " : Str).length = 2 := by decide +kernel
    refine ⟨?_, strOk_app (strOk_app h2 s1) g2⟩
    show (x ++ ", " ++ Str.join ", " (y :: r)).length ≤ _
    rw [strLen_append, strLen_append, s2]
    have e : (x :: y :: r).length = (y :: r).length + 1 := rfl
    rw [e, Nat.add_mul]
    omega
theorem tup_up (B : Nat) (ts : List Str) (h : ∀ t ∈ ts, t.length ≤ B ∧ PyData.strOk t = true) : (tupleText ts).length ≤ ts.length * (B + 2) + 3 ∧ PyData.strOk (tupleText ts) = true := by
  obtain ⟨g1, g2⟩ := join_up B ts h
  have e : ∀ b : Bool, PyData.strOk ((if b then ",)" else ")" : String) : Str) = true ∧ ((if b then ",)" else ")" : String) : Str).length ≤ 2 := by decide +kernel
  obtain ⟨e1, e2⟩ := e (ts.length == 1)
  have s1 : PyData.strOk ("(" : Str) = true := by decide +kernel
  have s2 : ("(" : Str).length = 1 := by decide +kernel
  unfold tupleText
  refine ⟨?_, strOk_app (strOk_app s1 g2) e1⟩
  rw [strLen_append, strLen_append, s2]
  omega
theorem lst_up (B : Nat) (ts : List Str) (h : ∀ t ∈ ts, t.length ≤ B ∧ PyData.strOk t = true) : (listText ts).length ≤ ts.length * (B + 2) + 3 ∧ PyData.strOk (listText ts) = true := by
  obtain ⟨g1, g2⟩ := textFrom_up B ts 0 "[" h (by decide +kernel)
  have s1 : PyData.strOk ("]" : Str) = true := by decide +kernel
  have s2 : ("]" : Str).length = 1 := by decide +kernel
  have s3 : ("[" : Str).length = 1 := by decide +kernel
  unfold listText
  refine ⟨?_, strOk_app g2 s1⟩
  rw [strLen_append, s2]
  omega
structure Told' (m n : Nat) (d : PyData) : Prop where
  show' : d.showable = true
  len : d.shown.length ≤ Bd m n
  ok : PyData.strOk d.shown = true
  deep : d.depth ≤ n + 1
theorem shownAll_mem : ∀ {ds : List PyData} {t : Str}, t ∈ PyData.shownAll ds → ∃ d ∈ ds, t = d.shown
  | [], _, h => by simp only [PyData.shownAll] at h; cases h
  | d :: ds, t, h => by
    simp only [PyData.shownAll, List.mem_cons] at h
    rcases h with h | h
    · exact ⟨d, List.mem_cons_self, h⟩
    · obtain ⟨e, h1, h2⟩ := shownAll_mem h
      exact ⟨e, List.mem_cons_of_mem _ h1, h2⟩
theorem shownAll_len : ∀ ds : List PyData, (PyData.shownAll ds).length = ds.length
  | [] => by simp only [PyData.shownAll]; rfl
  | d :: ds => by simp only [PyData.shownAll, List.length_cons, shownAll_len ds]
theorem showAll_of : ∀ {ds : List PyData}, (∀ d ∈ ds, d.showable = true) → PyData.showableAll ds = true
  | [], _ => by simp only [PyData.showableAll]
  | d :: ds, h => by
    simp only [PyData.showableAll, h d List.mem_cons_self, showAll_of fun e he => h e (List.mem_cons_of_mem _ he), Bool.and_self]
theorem depthAll_of {n : Nat} : ∀ {ds : List PyData}, (∀ d ∈ ds, d.depth ≤ n) → PyData.depthAll ds ≤ n
  | [], _ => by simp only [PyData.depthAll]; omega
  | d :: ds, h => by
    have h1 := h d List.mem_cons_self
    have h2 := depthAll_of (ds := ds) fun e he => h e (List.mem_cons_of_mem _ he)
    simp only [PyData.depthAll]
    omega
theorem Bd_ge : ∀ m n, 700 ≤ Bd m n
  | _, 0 => Nat.le_refl _
  | m, n + 1 => by
    have := Bd_ge m n
    show 700 ≤ (wd (n + 1) + m) * (Bd m n + 2) + 3
    have : 1 * (Bd m n + 2) ≤ (wd (n + 1) + m) * (Bd m n + 2) := Nat.mul_le_mul_right _ (by have := wd_le (n + 1); omega)
    omega
theorem atom_told {m : Nat} (hm : m ≤ 2) (n : Nat) : ∀ {d : PyData}, Atom m d → Told' m n d
  | .none, _ => ⟨rfl, Nat.le_trans (by decide +kernel : (PyData.none).shown.length ≤ 700) (Bd_ge m n), by decide +kernel, by simp only [PyData.depth]; omega⟩
  | .bool true, _ => ⟨rfl, Nat.le_trans (by decide +kernel : (PyData.bool true).shown.length ≤ 700) (Bd_ge m n), by decide +kernel, by simp only [PyData.depth]; omega⟩
  | .bool false, _ => ⟨rfl, Nat.le_trans (by decide +kernel : (PyData.bool false).shown.length ≤ 700) (Bd_ge m n), by decide +kernel, by simp only [PyData.depth]; omega⟩
  | .dict [], _ => ⟨by decide +kernel, Nat.le_trans (by decide +kernel : (PyData.dict []).shown.length ≤ 700) (Bd_ge m n), by decide +kernel, by simp only [PyData.depth, PyData.depthKv]; omega⟩
  | .str s, a => by
    refine ⟨rfl, ?_, ?_, by simp only [PyData.depth]; omega⟩
    · simp only [PyData.shown]
      have := repr_len a.2
      have := a.1
      have := Bd_ge m n
      omega
    · simp only [PyData.shown]
      exact repr_ok a.2
  | .int i, a => by
    have ha : i.natAbs ≤ 10 ^ 39 + 3 + 3 * m := a
    have h40 : i.natAbs < 10 ^ 40 := by omega
    refine ⟨?_, ?_, ?_, by simp only [PyData.depth]; omega⟩
    · simp only [PyData.showable, decide_eq_true_eq]
      by_cases z : i.natAbs = 0
      · rw [z]; decide
      · exact (Nat.log2_lt z).mpr (Nat.lt_of_lt_of_le h40 (by decide +kernel))
    · simp only [PyData.shown]
      have := int_text_length_le10 (a := i) (k := 40) (by omega) h40
      have := Bd_ge m n
      show (Str.ofString (toString i)).length ≤ _
      rw [PySem.ofString_length]
      omega
    · simp only [PyData.shown]
      rw [strOk_iff]
      intro c hc
      have := int_low i c hc
      omega
theorem sz_told {m : Nat} (hm : m ≤ 2) : ∀ {n : Nat} {d : PyData}, Sz m n d → Told' m n d
  | 0, d, a => atom_told hm 0 a
  | n + 1, d, a => by
    rcases a with a | ⟨ds, e, z, q⟩
    · exact atom_told hm (n + 1) a
    · have ih : ∀ x ∈ ds, Told' m n x := fun x hx => sz_told hm (q x hx)
      have hs : ∀ t ∈ PyData.shownAll ds, t.length ≤ Bd m n ∧ PyData.strOk t = true := fun t ht => by
        obtain ⟨x, hx, rfl⟩ := shownAll_mem ht
        exact ⟨(ih x hx).len, (ih x hx).ok⟩
      have h5 : ds.length ≤ wd (n + 1) + m := z
      have mul : ds.length * (Bd m n + 2) ≤ (wd (n + 1) + m) * (Bd m n + 2) := Nat.mul_le_mul_right _ h5
      have sh := showAll_of fun x hx => (ih x hx).show'
      have dp := depthAll_of fun x hx => (ih x hx).deep
      rcases e with rfl | rfl
      · obtain ⟨g1, g2⟩ := lst_up (Bd m n) _ hs
        rw [shownAll_len] at g1
        exact ⟨by simpa only [PyData.showable] using sh, by simp only [PyData.shown]; show _ ≤ (wd (n + 1) + m) * (Bd m n + 2) + 3; omega, by simpa only [PyData.shown] using g2, by simp only [PyData.depth]; omega⟩
      · obtain ⟨g1, g2⟩ := tup_up (Bd m n) _ hs
        rw [shownAll_len] at g1
        exact ⟨by simpa only [PyData.showable] using sh, by simp only [PyData.shown]; show _ ≤ (wd (n + 1) + m) * (Bd m n + 2) + 3; omega, by simpa only [PyData.shown] using g2, by simp only [PyData.depth]; omega⟩
end G03
namespace G03
open PySem PySem.Spec PyProof.Rows L2 Px PySem.Builtin PySem.Builtin.Str
theorem low_tx {l : List Nat} (h : ∀ c ∈ l, c < 128) : Low (tx l) := fun c hc => h c (by simpa [tx] using hc)
theorem sz_atom {m n : Nat} {d : PyData} (h : Atom m d) : Sz m n d := by
  cases n with
  | zero => exact h
  | succ n => exact .inl h
theorem sz_tup {m n : Nat} {ds : List PyData} (h : ds.length ≤ wd (n + 1) + m) (q : ∀ e ∈ ds, Sz m n e) : Sz m (n + 1) (.tuple ds) := .inr ⟨ds, .inr rfl, h, q⟩
theorem sz_lst {m n : Nat} {ds : List PyData} (h : ds.length ≤ wd (n + 1) + m) (q : ∀ e ∈ ds, Sz m n e) : Sz m (n + 1) (.list ds) := .inr ⟨ds, .inl rfl, h, q⟩
theorem low_lit : ∀ s ∈ (["", "a", "not", "some", "abcdefghi", "Ab", "a b", "a1"] : List Str), s.length ≤ 160 ∧ ∀ c ∈ s.cps.toList, c < 128 := by decide +kernel
theorem odd_sz : ∀ d ∈ odds, Sz 0 2 d := by
  have s : ∀ x ∈ (["", "a", "not", "some", "abcdefghi", "Ab", "a b", "a1"] : List Str), Atom 0 (.str x) := fun x hx => ⟨(low_lit x hx).1, (low_lit x hx).2⟩
  have ai : ∀ i : Int, i.natAbs ≤ 10 ^ 39 → Atom 0 (.int i) := fun i h => by show i.natAbs ≤ _; omega
  have a0 : ∀ n, Sz 0 n (.str "a") := fun n => sz_atom (s _ (by simp))
  have i1 : ∀ n, Sz 0 n (.int 1) := fun n => sz_atom (ai 1 (by decide))
  have pa : Sz 0 1 (.tuple [.str "a", .int 1]) := sz_tup (by decide) (by intro e he; simp at he; rcases he with rfl | rfl; exact a0 0; exact i1 0)
  intro d hd
  unfold odds at hd
  simp only [List.mem_cons, List.not_mem_nil, or_false] at hd
  rcases hd with rfl | rfl | rfl | rfl | rfl | rfl | rfl | rfl | rfl | rfl | rfl | rfl | rfl | rfl | rfl | rfl | rfl | rfl | rfl | rfl | rfl | rfl | rfl | rfl | rfl | rfl | rfl | rfl
  · exact sz_atom trivial
  · exact sz_atom trivial
  · exact sz_atom trivial
  · exact sz_atom (ai _ (by decide))
  · exact sz_atom (ai _ (by decide))
  · exact sz_atom (ai _ (by decide))
  · exact sz_atom (ai _ (by decide))
  · exact sz_atom (ai _ (by decide))
  · exact sz_atom (ai _ (by decide +kernel))
  · exact sz_atom (s _ (by simp))
  · exact sz_atom (s _ (by simp))
  · exact sz_atom (s _ (by simp))
  · exact sz_atom (s _ (by simp))
  · exact sz_atom (s _ (by simp))
  · exact sz_atom (s _ (by simp))
  · exact sz_atom (s _ (by simp))
  · exact sz_tup (by decide) (fun _ h => nomatch h)
  · exact sz_tup (by decide) (by intro e he; simp at he; subst he; exact a0 1)
  · exact sz_lst (by decide) (by intro e he; simp at he; rcases he with rfl | rfl; exact a0 1; exact i1 1)
  · exact sz_atom trivial
  · exact sz_tup (by decide) (by intro e he; simp at he; rcases he with rfl | rfl; exact a0 1; exact i1 1)
  · exact sz_tup (by decide) (by intro e he; simp at he; subst he; exact pa)
  · exact sz_lst (by decide) (by intro e he; simp at he; subst he; exact pa)
  · exact sz_tup (by decide) (by intro e he; simp at he; rcases he with rfl | rfl; exact a0 1; exact sz_atom trivial)
  · exact sz_tup (by decide) (by intro e he; simp at he; subst he; exact sz_atom (s _ (by simp)))
  · exact sz_tup (by decide) (by intro e he; simp at he; rcases he with rfl | rfl; exact i1 1; exact sz_atom (ai _ (by decide)))
  · exact sz_tup (by decide) (by intro e he; simp at he; subst he; exact sz_tup (by decide) (fun _ h => nomatch h))
  · exact sz_atom (s _ (by simp))
/-- an item by a number that is in reach -/
theorem ix_nat {ds : List PyData} {j : Nat} (h : j < ds.length) : ixD (.list ds) (.int j) = some (.val ds[j]) ∧ ixD (.tuple ds) (.int j) = some (.val ds[j]) := by
  have e : atI ds (j : Int) = some ds[j] := by
    unfold atI ixN
    rw [if_pos (by omega), if_pos (by omega)]
    simp [h]
  constructor
  · show (atI ds (j : Int)).map OR.val = _
    rw [e]
    rfl
  · show (atI ds (j : Int)).map OR.val = _
    rw [e]
    rfl
theorem tx_of (s : Str) : s = tx s.cps.toList := by
  show s = Str.mk s.cps.toList.toArray
  rw [Array.toArray_toList]
/-- the six texts -/
def six (l : List Nat) : List Str := [tx (l ++ [97]), tx (l.drop 1), tx l.reverse, tx (l ++ [90]), tx (l ++ [32]), tx (122 :: l.take 7)]
theorem six_ok {m : Nat} {l : List Nat} (hl : l.length ≤ 160 + m) (h : ∀ c ∈ l, c < 128) : ∀ x ∈ six l, Atom (m + 1) (.str x) := by
  intro x hx
  simp only [six, List.mem_cons, List.not_mem_nil, or_false] at hx
  rcases hx with rfl | rfl | rfl | rfl | rfl | rfl
  · exact ⟨by rw [tx_len, List.length_append]; simp; omega, low_tx fun c hc => by rcases List.mem_append.mp hc with z | z; exact h c z; exact (by simp at z; omega)⟩
  · exact ⟨by rw [tx_len, List.length_drop]; omega, low_tx fun c hc => h c (List.mem_of_mem_drop hc)⟩
  · exact ⟨by rw [tx_len, List.length_reverse]; omega, low_tx fun c hc => h c (List.mem_reverse.mp hc)⟩
  · exact ⟨by rw [tx_len, List.length_append]; simp; omega, low_tx fun c hc => by rcases List.mem_append.mp hc with z | z; exact h c z; exact (by simp at z; omega)⟩
  · exact ⟨by rw [tx_len, List.length_append]; simp; omega, low_tx fun c hc => by rcases List.mem_append.mp hc with z | z; exact h c z; exact (by simp at z; omega)⟩
  · exact ⟨by rw [tx_len, List.length_cons, List.length_take]; omega, low_tx fun c hc => by rcases List.mem_cons.mp hc with z | z; exact (by omega); exact h c (List.mem_of_mem_take z)⟩
end G03
namespace G03
open PySem PySem.Spec PyProof.Rows L2 Px PySem.Builtin PySem.Builtin.Str
abbrev ssl (d : PyData) (k : Int) (w a od : Sl) (s6 s7 : Sl) : Sls := [.ref 0, .val d, .val (.int k), w, a, od, s6, s7]
/-- a text, spoilt -/
theorem six_ev {d : PyData} {k : Int} {l : List Nat} {w : Nat} {a od s6 s7 : Sl} {st : Sto} (hd : d = .str (tx l)) (hl : l.length ≤ 1000) (hw : w < 6) :
    ∃ x ∈ six l, u2 ixD (eLst (aCons (u2 addD (eName 1) (eD (.str "a"))) (aCons (eCut (eName 1) (oInt (eD (.int 1))) oNone) (aCons (eCut3 (eName 1) oNone oNone (oInt (u1 negD (eD (.int 1))))) (aCons (u2 addD (eName 1) (eD (.str "Z"))) (aCons (u2 addD (eName 1) (eD (.str " "))) (aCons (u2 addD (eD (.str "z")) (eCut (eName 1) oNone (oInt (eD (.int 7))))) aNil))))))) (eName 3) (ssl d k (.val (.int w)) a od s6 s7) st = .ok (.val (.str x)) st := by
  subst hd
  have e1 : (u2 addD (eName 1) (eD (.str "a"))) (ssl (.str (tx l)) k (.val (.int w)) a od s6 s7) st = .ok (.val (.str (tx (l ++ [97])))) st := u2_ok (r := .val (.str (tx (l ++ [97])))) (a := .str (tx l)) (b := .str (tx [97])) rfl rfl rfl rfl (add_tx (by simp; unfold Lim; omega))
  have e4 : (u2 addD (eName 1) (eD (.str "Z"))) (ssl (.str (tx l)) k (.val (.int w)) a od s6 s7) st = .ok (.val (.str (tx (l ++ [90])))) st := u2_ok (r := .val (.str (tx (l ++ [90])))) (a := .str (tx l)) (b := .str (tx [90])) rfl rfl rfl rfl (add_tx (by simp; unfold Lim; omega))
  have e5 : (u2 addD (eName 1) (eD (.str " "))) (ssl (.str (tx l)) k (.val (.int w)) a od s6 s7) st = .ok (.val (.str (tx (l ++ [32])))) st := u2_ok (r := .val (.str (tx (l ++ [32])))) (a := .str (tx l)) (b := .str (tx [32])) rfl rfl rfl rfl (add_tx (by simp; unfold Lim; omega))
  have c2 : cutL l (some (1 : Int)) none = l.drop 1 := by
    by_cases h : 1 ≤ l.length
    · exact cut_from l 1 h
    · have : l = [] := List.eq_nil_of_length_eq_zero (by omega)
      subst this
      rfl
  have c6 : cutL l none (some (7 : Int)) = l.take 7 := by
    unfold cutL
    rw [HT.sIx_none, List.drop_zero, Nat.sub_zero, show ((7 : Int)) = ((7 : Nat) : Int) by omega, HT.sIx_nat]
    rw [List.take_eq_take_iff]
    omega
  have e2 : (eCut (eName 1) (oInt (eD (.int 1))) oNone) (ssl (.str (tx l)) k (.val (.int w)) a od s6 s7) st = .ok (.val (.str (tx (l.drop 1)))) st := by
    show (match cutD (some 1) none (.str (tx l)) with
      | none => .fail
      | some r => .ok r.ev st : Re EV) = _
    rw [cut_tx (by unfold Lim; omega), c2]
    rfl
  have e6' : (eCut (eName 1) oNone (oInt (eD (.int 7)))) (ssl (.str (tx l)) k (.val (.int w)) a od s6 s7) st = .ok (.val (.str (tx (l.take 7)))) st := by
    show (match cutD none (some 7) (.str (tx l)) with
      | none => .fail
      | some r => .ok r.ev st : Re EV) = _
    rw [cut_tx (by unfold Lim; omega), c6]
    rfl
  have e6 : (u2 addD (eD (.str "z")) (eCut (eName 1) oNone (oInt (eD (.int 7))))) (ssl (.str (tx l)) k (.val (.int w)) a od s6 s7) st = .ok (.val (.str (tx (122 :: l.take 7)))) st := u2_ok (r := .val (.str (tx (122 :: l.take 7)))) (a := .str (tx [122])) (b := .str (tx (l.take 7))) rfl e6' rfl rfl (add_tx (by rw [List.length_take]; simp; unfold Lim; omega))
  have e3 : (eCut3 (eName 1) oNone oNone (oInt (u1 negD (eD (.int 1))))) (ssl (.str (tx l)) k (.val (.int w)) a od s6 s7) st = .ok (.val (.str (tx l.reverse))) st := by
    show (match cutD3 none none (some (-1)) (.str (tx l)) with
      | none => .fail
      | some r => .ok r.ev st : Re EV) = _
    have : cutD3 none none (some (-1)) (.str (tx l)) = some (.val (.str (tx l.reverse))) := by
      show (if (none : Option Int) = none ∧ (none : Option Int) = none ∧ some (-1 : Int) = some (-1) ∧ (tx l).length ≤ Lim then some (OR.val (.str (revS (tx l)))) else none) = _
      rw [if_pos ⟨rfl, rfl, rfl, by rw [tx_len]; unfold Lim; omega⟩]
      rfl
    rw [this]
    rfl
  have ll : (six l).length = 6 := rfl
  refine ⟨(six l)[w], List.getElem_mem (by omega), ?_⟩
  have hix := (ix_nat (ds := (six l).map .str) (j := w) (by rw [List.length_map]; omega)).1
  rw [List.getElem_map] at hix
  exact u2_ok (r := .val (.str (six l)[w])) (e1 := .new (.lst ((six l).map .str))) (a := .list ((six l).map .str)) (b := .int w) (eLst_ok (es := (six l).map fun x => .val (.str x)) (aCons_ok e1 (aCons_ok e2 (aCons_ok e3 (aCons_ok e4 (aCons_ok e5 (aCons_ok e6 rfl)))))) rfl (by show 6 ≤ Lim; decide)) rfl rfl rfl hix
/-- an int, spoilt -/
def sixI (i : Int) : List PyData := [.int (i + 1), .int (i - 1), .bool (i == 1), .str (Str.ofString (toString i)), .int (3 - i), .int 2]
theorem sixI_ok {m : Nat} {i : Int} (h : i.natAbs ≤ 10 ^ 39 + 3 + 3 * m) (hm : m ≤ 2) : ∀ x ∈ sixI i, Atom (m + 1) x := by
  intro x hx
  simp only [sixI, List.mem_cons, List.not_mem_nil, or_false] at hx
  rcases hx with rfl | rfl | rfl | rfl | rfl | rfl
  · show (i + 1).natAbs ≤ _; omega
  · show (i - 1).natAbs ≤ _; omega
  · trivial
  · have h40 : i.natAbs < 10 ^ 40 := by omega
    have := int_text_length_le10 (a := i) (k := 40) (by omega) h40
    exact ⟨by rw [PySem.ofString_length]; omega, int_low i⟩
  · show (3 - i).natAbs ≤ _; omega
  · show (2 : Int).natAbs ≤ _; omega
theorem sixI_ev {d : PyData} {k i : Int} {w : Nat} {a od s6 s7 : Sl} {st : Sto} (hd : d = .int i) (hi : i.natAbs < 10 ^ 40) (hw : w < 6) :
    ∃ x ∈ sixI i, u2 ixD (eLst (aCons (u2 addD (eName 1) (eD (.int 1))) (aCons (u2 subD (eName 1) (eD (.int 1))) (aCons (u2 (asB eqE) (eName 1) (eD (.int 1))) (aCons (un strD (aCons (eName 1) aNil)) (aCons (u2 subD (eD (.int 3)) (eName 1)) (aCons (eD (.int 2)) aNil))))))) (eName 3) (ssl d k (.val (.int w)) a od s6 s7) st = .ok (.val x) st := by
  subst hd
  have lg : i.natAbs.log2 < 1920 := by
    by_cases z : i.natAbs = 0
    · rw [z]; decide
    · exact (Nat.log2_lt z).mpr (Nat.lt_of_lt_of_le hi (by decide +kernel))
  have sok : PyData.strOk (toString i : String) = true := by
    rw [strOk_iff]
    intro c hc
    have := int_low i c hc
    omega
  have e4 : (un strD (aCons (eName 1) aNil)) (ssl (.int i) k (.val (.int w)) a od s6 s7) st = .ok (.val (.str (Str.ofString (toString i)))) st := by
    refine un_ok (r := .val (.str (Str.ofString (toString i)))) (es := [.val (.int i)]) (ds := [.int i]) rfl rfl ?_
    show (if i.natAbs.log2 < 1920 ∧ PyData.strOk (toString i : String) = true then some (OR.val (.str (toString i : String))) else none) = _
    rw [if_pos ⟨lg, sok⟩]
  have ll : (sixI i).length = 6 := rfl
  refine ⟨(sixI i)[w], List.getElem_mem (by omega), ?_⟩
  exact u2_ok (r := .val (sixI i)[w]) (e1 := .new (.lst (sixI i))) (a := .list (sixI i)) (b := .int w) (eLst_ok (es := (sixI i).map fun x => .val x) (aCons_ok (e1 := .val (.int (i + 1))) rfl (aCons_ok (e1 := .val (.int (i - 1))) (u2_ok (r := .val (.int (i - 1))) rfl rfl rfl rfl (int2_ok trivial)) (aCons_ok (e1 := .val (.bool (i == 1))) rfl (aCons_ok e4 (aCons_ok (e1 := .val (.int (3 - i))) (u2_ok (r := .val (.int (3 - i))) rfl rfl rfl rfl (int2_ok trivial)) rfl))))) rfl (by show 6 ≤ Lim; decide)) rfl rfl rfl (ix_nat (ds := sixI i) (j := w) (by omega)).1
end G03
namespace G03
open PySem PySem.Spec PyProof.Rows L2 Px PySem.Builtin PySem.Builtin.Str
def emp : PyData → Bool | .tuple [] => true | _ => false
theorem neE_emp (ds : List PyData) : neE (.tuple ds) (.tuple []) = some (!emp (.tuple ds)) := by cases ds <;> rfl
theorem eqE_emp (ds : List PyData) : eqE (.tuple ds) (.tuple []) = some (emp (.tuple ds)) := by cases ds <;> rfl
theorem asTup_shape {d : PyData} (h : asTup d = true) : ∃ ds, d = .tuple ds := by
  cases d <;> first | exact ⟨_, rfl⟩ | exact nomatch h
theorem sz_items {m n : Nat} {ds : List PyData} (h : Sz m (n + 1) (.tuple ds)) : ds.length ≤ wd (n + 1) + m ∧ ∀ e ∈ ds, Sz m n e := by
  rcases h with h | ⟨es, e, l, q⟩
  · exact h.elim
  · rcases e with e | e
    · cases e
    · cases e; exact ⟨l, q⟩
theorem cut_ev {f : FE} {l h : FO} {sl : Sls} {st : Sto} {lo hi : Option Int} {ds : List PyData} (hf : f sl st = .ok (.val (.tuple ds)) st) (hl : l sl st = .ok lo st) (hh : h sl st = .ok hi st) : eCut f l h sl st = .ok (.val (.tuple (cutL ds lo hi))) st := by
  unfold eCut
  rw [hf]
  dsimp only
  rw [hl]
  dsimp only
  rw [hh]
  rfl
theorem addT {a b : List PyData} (h : a.length + b.length ≤ 1000) : addD (.tuple a) (.tuple b) = some (.val (.tuple (a ++ b))) := by
  show (if a.length + b.length ≤ Lim then some (OR.val (.tuple (a ++ b))) else none) = _
  rw [if_pos (by unfold Lim; omega)]
abbrev aBlk : FS := sSeq (sIf (tAndF (tst (u1 (isD "str") (eName 1))) (t2 ltD (eName 3) (eD (.int 6))))
    (sRet (u2 ixD (eLst (aCons (u2 addD (eName 1) (eD (.str "a"))) (aCons (eCut (eName 1) (oInt (eD (.int 1))) oNone) (aCons (eCut3 (eName 1) oNone oNone (oInt (u1 negD (eD (.int 1))))) (aCons (u2 addD (eName 1) (eD (.str "Z"))) (aCons (u2 addD (eName 1) (eD (.str " "))) (aCons (u2 addD (eD (.str "z")) (eCut (eName 1) oNone (oInt (eD (.int 7))))) aNil))))))) (eName 3)))
    sNext)
    (sSeq (sIf (tAndF (tst (u1 (isD "int") (eName 1))) (tAndF (tNotF (tst (u1 (isD "bool") (eName 1)))) (t2 ltD (eName 3) (eD (.int 6)))))
    (sRet (u2 ixD (eLst (aCons (u2 addD (eName 1) (eD (.int 1))) (aCons (u2 subD (eName 1) (eD (.int 1))) (aCons (u2 (asB eqE) (eName 1) (eD (.int 1))) (aCons (un strD (aCons (eName 1) aNil)) (aCons (u2 subD (eD (.int 3)) (eName 1)) (aCons (eD (.int 2)) aNil))))))) (eName 3)))
    sNext)
    (sRet (eName 5)))
theorem aBlk_ok {k m w n : Nat} {d od : PyData} {t s6 s7 : Sl} {st : Sto} (hm : m ≤ 1) (hd : Sz m n d) (hod : Sz (m + 1) n od) : ∃ d', aBlk (ssl d k (.val (.int w)) t (.val od) s6 s7) st = .rt d' st ∧ Sz (m + 1) n d' := by
  have at_ : ∀ {x : PyData}, (asStr x = true ∨ asInt x = true) → Sz m n x → Atom m x := fun {x} hx hz => by
    cases n with
    | zero => exact hz
    | succ n =>
      rcases hz with z | ⟨ds, e, _⟩
      · exact z
      · rcases e with rfl | rfl
        · exact hx.elim (fun z => nomatch z) (fun z => nomatch z)
        · exact hx.elim (fun z => nomatch z) (fun z => nomatch z)
  have is' : tst (u1 (isD "str") (eName 1)) (ssl d k (.val (.int w)) t (.val od) s6 s7) st = .ok (asStr d) st := tst_ok (u1_ok (r := .val (.bool (asStr d))) (e1 := .val d) rfl rfl (is_str d))
  have ii : tst (u1 (isD "int") (eName 1)) (ssl d k (.val (.int w)) t (.val od) s6 s7) st = .ok (asInt d) st := tst_ok (u1_ok (r := .val (.bool (asInt d))) (e1 := .val d) rfl rfl (is_int d))
  have ib : tNotF (tst (u1 (isD "bool") (eName 1))) (ssl d k (.val (.int w)) t (.val od) s6 s7) st = .ok (!asBl d) st := tNotF_ok (tst_ok (u1_ok (r := .val (.bool (asBl d))) (e1 := .val d) rfl rfl (is_bl d)))
  have w6 : t2 ltD (eName 3) (eD (.int 6)) (ssl d k (.val (.int w)) t (.val od) s6 s7) st = .ok (decide ((w : Int) < 6)) st := t2_ok rfl rfl rfl rfl rfl
  have e5 : sRet (eName 5) (ssl d k (.val (.int w)) t (.val od) s6 s7) st = .rt od st := sRet_ok (e1 := .val od) rfl rfl
  cases d with
  | none => exact ⟨od, sSeq_ok (sIf_ok (tAndF_ok is' rfl) rfl) (sSeq_ok (sIf_ok (tAndF_ok ii rfl) rfl) e5), hod⟩
  | list _ => exact ⟨od, sSeq_ok (sIf_ok (tAndF_ok is' rfl) rfl) (sSeq_ok (sIf_ok (tAndF_ok ii rfl) rfl) e5), hod⟩
  | tuple _ => exact ⟨od, sSeq_ok (sIf_ok (tAndF_ok is' rfl) rfl) (sSeq_ok (sIf_ok (tAndF_ok ii rfl) rfl) e5), hod⟩
  | dict _ => exact ⟨od, sSeq_ok (sIf_ok (tAndF_ok is' rfl) rfl) (sSeq_ok (sIf_ok (tAndF_ok ii rfl) rfl) e5), hod⟩
  | bool _ => exact ⟨od, sSeq_ok (sIf_ok (tAndF_ok is' rfl) rfl) (sSeq_ok (sIf_ok (tAndF_ok ii (bif_t rfl (tAndF_ok ib rfl))) rfl) e5), hod⟩
  | str s =>
    by_cases h6 : (w : Int) < 6
    · rw [decide_eq_true h6] at w6
      have a := at_ (.inl rfl) hd
      obtain ⟨x, hx, ex⟩ := six_ev (d := .str s) (k := k) (l := s.cps.toList) (w := w) (a := t) (od := .val od) (s6 := s6) (s7 := s7) (st := st) (by rw [← tx_of]) (by rw [Array.length_toList]; have : s.cps.size ≤ 160 + m := a.1; omega) (by omega)
      refine ⟨.str x, sSeq_rt (sIf_ok (tAndF_ok is' (bif_t rfl w6)) (bif_t rfl (sRet_ok ex rfl))), sz_atom (six_ok (m := m) (l := s.cps.toList) (by rw [Array.length_toList]; exact a.1) a.2 x hx)⟩
    · rw [decide_eq_false h6] at w6
      exact ⟨od, sSeq_ok (sIf_ok (tAndF_ok is' (bif_t rfl w6)) rfl) (sSeq_ok (sIf_ok (tAndF_ok ii rfl) rfl) e5), hod⟩
  | int i =>
    by_cases h6 : (w : Int) < 6
    · rw [decide_eq_true h6] at w6
      have a : i.natAbs ≤ 10 ^ 39 + 3 + 3 * m := at_ (.inr rfl) hd
      obtain ⟨x, hx, ex⟩ := sixI_ev (d := .int i) (k := k) (i := i) (w := w) (a := t) (od := .val od) (s6 := s6) (s7 := s7) (st := st) rfl (by omega) (by omega)
      exact ⟨x, sSeq_ok (sIf_ok (tAndF_ok is' rfl) rfl) (sSeq_rt (sIf_ok (tAndF_ok ii (bif_t rfl (tAndF_ok ib (bif_t rfl w6)))) (bif_t rfl (sRet_ok ex rfl)))), sz_atom (sixI_ok a (by omega) x hx)⟩
    · rw [decide_eq_false h6] at w6
      exact ⟨od, sSeq_ok (sIf_ok (tAndF_ok is' rfl) rfl) (sSeq_ok (sIf_ok (tAndF_ok ii (bif_t rfl (tAndF_ok ib (bif_t rfl w6)))) rfl) e5), hod⟩
theorem level_ok (D : FD) (k m : Nat) {o : MO} {c : Int} {d : PyData} (hm : m ≤ 1) (hd : Sz m (k + 2) d) (h : PoolAt c o) (hc : c + 3 * k < 600000) (hk : k ≤ 5)
    (inner : ∀ (j : Nat), k = j + 1 → ∀ (o : MO) (c : Int) (e : PyData), Sz m (k + 1) e → PoolAt c o → c + 3 * j < 600000 → ∃ (e' : PyData) (o' : MO), D [.io o, .val e, .val (.int (k - 1))] = .rt e' [o'] ∧ Sz (m + 1) (k + 1) e' ∧ PoolAt (c + 3 * k) o') :
    ∃ (d' : PyData) (o' : MO), runD n_l_spoilt.length (g_l_spoilt D) [.io o, .val d, .val (.int k)] = .rt d' [o'] ∧ Sz (m + 1) (k + 2) d' ∧ PoolAt (c + 3 * (k + 1)) o' := by
  obtain ⟨w0, o1, e1, w1, w2, p1⟩ := etake (sl := ssl d k .non .non .non .non .non) (r := []) (f := eD (.int 10)) rfl rfl h (by omega) (by omega) (by omega)
  obtain ⟨w, rfl⟩ := Int.eq_ofNat_of_zero_le w1
  have it : ∀ {sl : Sls} {st : Sto}, sl[1]? = some (.val d) → tst (u1 (isD "tuple") (eName 1)) sl st = .ok (asTup d) st := fun {sl st} q => tst_ok (u1_ok (r := .val (.bool (asTup d))) (e1 := .val d) (by unfold eName; rw [q]) rfl (is_tup d))
  have is' : ∀ {sl : Sls} {st : Sto}, sl[1]? = some (.val d) → tst (u1 (isD "str") (eName 1)) sl st = .ok (asStr d) st := fun {sl st} q => tst_ok (u1_ok (r := .val (.bool (asStr d))) (e1 := .val d) (by unfold eName; rw [q]) rfl (is_str d))
  have ii : ∀ {sl : Sls} {st : Sto}, sl[1]? = some (.val d) → tst (u1 (isD "int") (eName 1)) sl st = .ok (asInt d) st := fun {sl st} q => tst_ok (u1_ok (r := .val (.bool (asInt d))) (e1 := .val d) (by unfold eName; rw [q]) rfl (is_int d))
  have ib : ∀ {sl : Sls} {st : Sto}, sl[1]? = some (.val d) → tNotF (tst (u1 (isD "bool") (eName 1))) sl st = .ok (!asBl d) st := fun {sl st} q => tNotF_ok (tst_ok (u1_ok (r := .val (.bool (asBl d))) (e1 := .val d) (by unfold eName; rw [q]) rfl (is_bl d)))
  obtain ⟨t, o2, e3, p2, ht⟩ : ∃ (t : Nat) (o2 : MO), sIf (tAndF (tst (u1 (isD "tuple") (eName 1))) (t2 neE (eName 1) (eTup aNil))) (sSet false 4 (eCall d_l_take [true, false] (aCons (eName 0) (aCons (un lenD (aCons (eName 1) aNil)) aNil)))) sNext (ssl d k (.val (.int w)) (.val (.int 0)) .non .non .non) [.io o1] =
      .nx (ssl d k (.val (.int w)) (.val (.int t)) .non .non .non) [.io o2] ∧ PoolAt (c + 2) o2 ∧ (emp d = false → ∀ ds, d = .tuple ds → t < ds.length) := by
    cases ha : asTup d with
    | false =>
      have q := it (sl := ssl d k (.val (.int w)) (.val (.int 0)) .non .non .non) (st := [.io o1]) rfl
      rw [ha] at q
      exact ⟨0, o1, sIf_ok (tAndF_ok q rfl) rfl, p1.mono (by omega), fun _ ds e => by rw [e] at ha; cases ha⟩
    | true =>
      obtain ⟨ds, rfl⟩ := asTup_shape ha
      have q := it (sl := ssl (.tuple ds) k (.val (.int w)) (.val (.int 0)) .non .non .non) (st := [.io o1]) rfl
      have q2 : t2 neE (eName 1) (eTup aNil) (ssl (.tuple ds) k (.val (.int w)) (.val (.int 0)) .non .non .non) [.io o1] = .ok (!emp (.tuple ds)) [.io o1] := t2_ok (a := .tuple ds) (b := .tuple []) rfl rfl rfl rfl (neE_emp ds)
      cases he : emp (.tuple ds) with
      | true =>
        rw [he] at q2
        exact ⟨0, o1, sIf_ok (tAndF_ok q (bif_t rfl q2)) rfl, p1.mono (by omega), fun z => nomatch z⟩
      | false =>
        rw [he] at q2
        have l0 : 0 < ds.length := by cases ds with
          | nil => cases he
          | cons _ _ => simp
        have l5 : ds.length ≤ 5 := by have := (sz_items hd).1; have := wd_le (k + 1 + 1); omega
        obtain ⟨t0, o2, a1, a2, a3, a4⟩ := etake (sl := ssl (.tuple ds) k (.val (.int w)) (.val (.int 0)) .non .non .non) (r := []) (m := ds.length) (f := un lenD (aCons (eName 1) aNil)) rfl (un_ok (r := .val (.int ds.length)) (es := [.val (.tuple ds)]) (ds := [.tuple ds]) rfl rfl rfl) p1 (by omega) (by omega) (by omega)
        obtain ⟨t, rfl⟩ := Int.eq_ofNat_of_zero_le a2
        exact ⟨t, o2, sIf_ok (tAndF_ok q (bif_t rfl q2)) (bif_t rfl (sSet_ok a1 rfl)), a4.mono (by omega), fun _ es e => by cases e; omega⟩
  obtain ⟨od, o3, e4, hod, p3⟩ := odd_ok p2 (by omega)
  have e4' : eCall d_l_odd [true] (aCons (eName 0) aNil) (ssl d k (.val (.int w)) (.val (.int t)) .non .non .non) [.io o2] = .ok (.val od) [.io o3] := eCall_ok (es := [.bor 0]) (rs := [.inr 0]) (as := [.io o2]) (ns := [0]) (os := [o3]) (st1 := [.io o2]) (st2 := [.io o2]) rfl rfl rfl (by decide) e4 rfl
  have odS : Sz (m + 1) (k + 2) od := Sz.mono (by omega) (by omega) (odd_sz od hod)
  have tA : tOrF (t2 eqE (eName 2) (eD (.int 0))) (tOrF (tNotF (tst (u1 (isD "tuple") (eName 1)))) (t2 eqE (eName 1) (eTup aNil))) (ssl d k (.val (.int w)) (.val (.int t)) (.val od) .non .non) [.io o3] = .ok (decide (k = 0) || (!asTup d || emp d)) [.io o3] := by
    have q0 : t2 eqE (eName 2) (eD (.int 0)) (ssl d k (.val (.int w)) (.val (.int t)) (.val od) .non .non) [.io o3] = .ok (decide (k = 0)) [.io o3] := by
      refine t2_ok (a := .int k) (b := .int 0) rfl rfl rfl rfl ?_
      show some ((k : Int) == 0) = _
      congr 1
      by_cases z : k = 0
      · subst z; rfl
      · rw [decide_eq_false z]; exact beq_false_of_ne (by omega)
    refine tOrF_ok q0 ?_
    cases decide (k = 0) with
    | true => rfl
    | false =>
      refine bif_f rfl (tOrF_ok (tNotF_ok (it rfl)) ?_)
      cases ha : asTup d with
      | false => rfl
      | true =>
        obtain ⟨ds, rfl⟩ := asTup_shape ha
        exact bif_f rfl (t2_ok (a := .tuple ds) (b := .tuple []) rfl rfl rfl rfl (eqE_emp ds))
  have w6 : t2 ltD (eName 3) (eD (.int 6)) (ssl d k (.val (.int w)) (.val (.int t)) (.val od) .non .non) [.io o3] = .ok (decide ((w : Int) < 6)) [.io o3] := t2_ok rfl rfl rfl rfl rfl
  suffices key : ∃ (d' : PyData) (o' : MO) (st : Sto), g_l_spoilt D (ssl d k .non .non .non .non .non) [.io o] = .rt d' (.io o' :: st) ∧ (∀ x ∈ st, ∃ y, x = Cell.live y) ∧ Sz (m + 1) (k + 2) d' ∧ PoolAt (c + 3 * (k + 1)) o' by
    obtain ⟨d', o', st, a1, a2, a3, a4⟩ := key
    refine ⟨d', o', ?_, a3, a4⟩
    show endD (g_l_spoilt D (ssl d k .non .non .non .non .non) [.io o]) = _
    rw [a1]
    show DR.rt d' (o' :: outs st) = _
    cases st with
    | nil => rfl
    | cons x st =>
      obtain ⟨y, rfl⟩ := a2 x List.mem_cons_self
      rfl
  unfold g_l_spoilt
  cases hA : (decide (k = 0) || (!asTup d || emp d)) with
  | true =>
    rw [hA] at tA
    obtain ⟨d', b1, b2⟩ := aBlk_ok (k := k) (w := w) (t := .val (.int t)) (s6 := .non) (s7 := .non) (st := [.io o3]) hm hd odS
    exact ⟨d', o3, [], sSeq_ok (sSet_ok e1 rfl) (sSeq_ok rfl (sSeq_ok e3 (sSeq_ok (sSet_ok e4' rfl) (sSeq_rt (sIf_ok tA b1))))), (fun _ z => nomatch z), b2, p3.mono (by omega)⟩
  | false =>
    rw [hA] at tA
    rw [Bool.or_eq_false_iff, Bool.or_eq_false_iff, decide_eq_false_iff_not, Bool.not_eq_false'] at hA
    obtain ⟨k0, hT, hE⟩ := hA
    obtain ⟨ds, rfl⟩ := asTup_shape hT
    have tl := ht hE ds rfl
    obtain ⟨l5, it5⟩ := sz_items hd
    have wle := (wd_le (k + 1 + 1)).2
    have head : ∀ {R : RS} {X : FS}, X (ssl (.tuple ds) k (.val (.int w)) (.val (.int t)) (.val od) .non .non) [.io o3] = R → _ := fun {R X} hX => hX
    have cl : ∀ {s6 s7 : Sl} {st : Sto}, eCut (eName 1) oNone (oInt (eName 4)) (ssl (.tuple ds) k (.val (.int w)) (.val (.int t)) (.val od) s6 s7) st = .ok (.val (.tuple (ds.take t))) st := fun {s6 s7 st} => by
      rw [cut_ev (ds := ds) (lo := none) (hi := some (t : Int)) rfl rfl rfl, cut_to ds t (by omega)]
    have cr : ∀ {s6 s7 : Sl} {st : Sto}, eCut (eName 1) (oInt (u2 addD (eName 4) (eD (.int 1)))) oNone (ssl (.tuple ds) k (.val (.int w)) (.val (.int t)) (.val od) s6 s7) st = .ok (.val (.tuple (ds.drop (t + 1)))) st := fun {s6 s7 st} => by
      rw [cut_ev (ds := ds) (lo := some ((t : Int) + 1)) (hi := none) rfl rfl rfl, show ((t : Int) + 1) = ((t + 1 : Nat) : Int) by omega, cut_from ds (t + 1) (by omega)]
    have cl1 : ∀ {s6 s7 : Sl} {st : Sto}, eCut (eName 1) oNone (oInt (u2 addD (eName 4) (eD (.int 1)))) (ssl (.tuple ds) k (.val (.int w)) (.val (.int t)) (.val od) s6 s7) st = .ok (.val (.tuple (ds.take (t + 1)))) st := fun {s6 s7 st} => by
      rw [cut_ev (ds := ds) (lo := none) (hi := some ((t : Int) + 1)) rfl rfl rfl, show ((t : Int) + 1) = ((t + 1 : Nat) : Int) by omega, cut_to ds (t + 1) (by omega)]
    have cr0 : ∀ {s6 s7 : Sl} {st : Sto}, eCut (eName 1) (oInt (eName 4)) oNone (ssl (.tuple ds) k (.val (.int w)) (.val (.int t)) (.val od) s6 s7) st = .ok (.val (.tuple (ds.drop t))) st := fun {s6 s7 st} => by
      rw [cut_ev (ds := ds) (lo := some (t : Int)) (hi := none) rfl rfl rfl, cut_from ds t (by omega)]
    have memT : ∀ {n : Nat} {e : PyData}, e ∈ ds.take n → Sz (m + 1) (k + 1) e := fun {n e} he => Sz.mono (by omega) (Nat.le_refl _) (it5 e (List.mem_of_mem_take he))
    have memD : ∀ {n : Nat} {e : PyData}, e ∈ ds.drop n → Sz (m + 1) (k + 1) e := fun {n e} he => Sz.mono (by omega) (Nat.le_refl _) (it5 e (List.mem_of_mem_drop he))
    by_cases h6 : (w : Int) < 6
    · rw [decide_eq_true h6] at w6
      obtain ⟨e', o4, f1, f2, f3⟩ := inner (k - 1) (by omega) o3 (c + 2 + 1) ds[t] (it5 _ (List.getElem_mem tl)) p3 (by omega)
      have ic : eCall D [true, false, false] (aCons (eName 0) (aCons (u2 ixD (eName 1) (eName 4)) (aCons (u2 subD (eName 2) (eD (.int 1))) aNil))) (ssl (.tuple ds) k (.val (.int w)) (.val (.int t)) (.val od) .non .non) [.io o3] = .ok (.val e') [.io o4] := by
        have x1 : u2 ixD (eName 1) (eName 4) (ssl (.tuple ds) k (.val (.int w)) (.val (.int t)) (.val od) .non .non) [.io o3] = .ok (.val ds[t]) [.io o3] := u2_ok (r := .val ds[t]) (a := .tuple ds) (b := .int t) rfl rfl rfl rfl (ix_nat tl).2
        have x2 : u2 subD (eName 2) (eD (.int 1)) (ssl (.tuple ds) k (.val (.int w)) (.val (.int t)) (.val od) .non .non) [.io o3] = .ok (.val (.int (k - 1))) [.io o3] := u2_ok (r := .val (.int (k - 1))) rfl rfl rfl rfl (int2_ok trivial)
        exact eCall_ok (es := [.bor 0, .val ds[t], .val (.int (k - 1))]) (rs := [.inr 0, .inl ds[t], .inl (.int (k - 1))]) (as := [.io o3, .val ds[t], .val (.int (k - 1))]) (ns := [0]) (os := [o4]) (st1 := [.io o3]) (st2 := [.io o3]) (aCons_ok (e1 := .bor 0) (st1 := [.io o3]) rfl (aCons_ok (e1 := .val ds[t]) (st1 := [.io o3]) x1 (aCons_ok (e1 := .val (.int (k - 1))) (es := []) x2 rfl))) rfl rfl (by decide) f1 rfl
      have lens : (ds.take t).length + (ds.drop (t + 1)).length ≤ 1000 := by rw [List.length_take, List.length_drop]; omega
      have ret : u2 addD (u2 addD (eCut (eName 1) oNone (oInt (eName 4))) (eTup (aCons (eName 6) aNil))) (eCut (eName 1) (oInt (u2 addD (eName 4) (eD (.int 1)))) oNone) (ssl (.tuple ds) k (.val (.int w)) (.val (.int t)) (.val od) (.val e') .non) [.io o4] = .ok (.val (.tuple (ds.take t ++ [e'] ++ ds.drop (t + 1)))) [.io o4] :=
        u2_ok (r := .val (.tuple (ds.take t ++ [e'] ++ ds.drop (t + 1)))) (u2_ok (r := .val (.tuple (ds.take t ++ [e']))) cl (eTup_ok (es := [.val e']) (ds := [e']) rfl rfl (by show 1 ≤ Lim; decide)) rfl rfl (addT (by rw [List.length_take]; simp; omega))) cr rfl rfl (addT (by rw [List.length_append, List.length_take, List.length_drop]; simp; omega))
      refine ⟨.tuple (ds.take t ++ [e'] ++ ds.drop (t + 1)), o4, [], sSeq_ok (sSet_ok e1 rfl) (sSeq_ok rfl (sSeq_ok e3 (sSeq_ok (sSet_ok e4' rfl) (sSeq_ok (sIf_ok tA rfl) (sSeq_rt (sIf_ok w6 (bif_t rfl (sSeq_ok (sSet_ok ic rfl) (sRet_ok ret rfl))))))))), (fun _ z => nomatch z), sz_tup ?_ ?_, f3.mono (by omega)⟩
      · simp only [List.length_append, List.length_take, List.length_drop, List.length_cons, List.length_nil]
        omega
      · intro e he
        rcases List.mem_append.mp he with z | z
        · rcases List.mem_append.mp z with z | z
          · exact memT z
          · rw [List.mem_singleton.mp z]; exact f2
        · exact memD z
    · rw [decide_eq_false h6] at w6
      obtain ⟨j, hj, hw⟩ : ∃ j : Nat, j < 4 ∧ (w : Int) - 6 = j := ⟨w - 6, by omega, by omega⟩
      let four : List PyData := [.tuple (ds.take t ++ ds.drop (t + 1)), .tuple (ds.take (t + 1) ++ ds.drop t), .list ds, .tuple ds.reverse]
      have lf : four.length = 4 := rfl
      have fl : eLst (aCons (u2 addD (eCut (eName 1) oNone (oInt (eName 4))) (eCut (eName 1) (oInt (u2 addD (eName 4) (eD (.int 1)))) oNone)) (aCons (u2 addD (eCut (eName 1) oNone (oInt (u2 addD (eName 4) (eD (.int 1))))) (eCut (eName 1) (oInt (eName 4)) oNone)) (aCons (un listD (aCons (eName 1) aNil)) (aCons (eCut3 (eName 1) oNone oNone (oInt (u1 negD (eD (.int 1))))) aNil)))) (ssl (.tuple ds) k (.val (.int w)) (.val (.int t)) (.val od) .non .non) [.io o3] = .ok (.new (.lst four)) [.io o3] := by
        have y1 := u2_ok (r := .val (.tuple (ds.take t ++ ds.drop (t + 1)))) (cl (s6 := .non) (s7 := .non) (st := [.io o3])) cr rfl rfl (addT (by rw [List.length_take, List.length_drop]; omega))
        have y2 := u2_ok (r := .val (.tuple (ds.take (t + 1) ++ ds.drop t))) (cl1 (s6 := .non) (s7 := .non) (st := [.io o3])) cr0 rfl rfl (addT (by rw [List.length_take, List.length_drop]; omega))
        have y3 : un listD (aCons (eName 1) aNil) (ssl (.tuple ds) k (.val (.int w)) (.val (.int t)) (.val od) .non .non) [.io o3] = .ok (.new (.lst ds)) [.io o3] := un_ok (r := .new (.lst ds)) (es := [.val (.tuple ds)]) (ds := [.tuple ds]) rfl rfl rfl
        have y4 : eCut3 (eName 1) oNone oNone (oInt (u1 negD (eD (.int 1)))) (ssl (.tuple ds) k (.val (.int w)) (.val (.int t)) (.val od) .non .non) [.io o3] = .ok (.val (.tuple ds.reverse)) [.io o3] := rfl
        exact eLst_ok (es := four.map EV.val) (aCons_ok y1 (aCons_ok y2 (aCons_ok y3 (aCons_ok y4 rfl)))) rfl (by show 4 ≤ Lim; decide)
      have sub : u2 subD (eName 3) (eD (.int 6)) (ssl (.tuple ds) k (.val (.int w)) (.val (.int t)) (.val od) .non (.val (.list four))) [.io o3] = .ok (.val (.int j)) [.io o3] := by
        rw [← hw]
        exact u2_ok (r := .val (.int ((w : Int) - 6))) rfl rfl rfl rfl (int2_ok trivial)
      refine ⟨four[j], o3, [], sSeq_ok (sSet_ok e1 rfl) (sSeq_ok rfl (sSeq_ok e3 (sSeq_ok (sSet_ok e4' rfl) (sSeq_ok (sIf_ok tA rfl) (sSeq_ok (sIf_ok w6 rfl) (sSeq_ok (sSet_ok fl rfl) (sRet_ok (u2_ok (r := .val four[j]) (a := .list four) (b := .int j) rfl sub rfl rfl (ix_nat (ds := four) (j := j) (by omega)).1) rfl))))))), (fun _ z => nomatch z), ?_, p3.mono (by omega)⟩
      have all4 : ∀ e ∈ four, Sz (m + 1) (k + 2) e := by
        intro e he
        simp only [four, List.mem_cons, List.not_mem_nil, or_false] at he
        rcases he with rfl | rfl | rfl | rfl
        · exact sz_tup (by rw [List.length_append, List.length_take, List.length_drop]; omega) fun x hx => (List.mem_append.mp hx).elim memT memD
        · exact sz_tup (by rw [List.length_append, List.length_take, List.length_drop]; omega) fun x hx => (List.mem_append.mp hx).elim memT memD
        · exact sz_lst (by omega) fun x hx => Sz.mono (by omega) (Nat.le_refl _) (it5 x hx)
        · exact sz_tup (by rw [List.length_reverse]; omega) fun x hx => Sz.mono (by omega) (Nat.le_refl _) (it5 x (List.mem_reverse.mp hx))
      exact all4 _ (List.getElem_mem _)
/-- a thing, spoilt -/
theorem spoilt_ok : ∀ (k m : Nat) (o : MO) (c : Int) (d : PyData), m ≤ 1 → Sz m (k + 2) d → PoolAt c o → c + 3 * k < 600000 → k ≤ 5 →
    ∃ (d' : PyData) (o' : MO), d_l_spoilt (k + 1) [.io o, .val d, .val (.int k)] = .rt d' [o'] ∧ Sz (m + 1) (k + 2) d' ∧ PoolAt (c + 3 * (k + 1)) o'
  | 0, m, o, c, d, hm, hd, h, hc, hk => level_ok (d_l_spoilt 0) 0 m hm hd h hc hk fun j e => by omega
  | k + 1, m, o, c, d, hm, hd, h, hc, hk => level_ok (d_l_spoilt (k + 1)) (k + 1) m hm hd h hc hk fun j e o c x hx hp hcc => by
    have ej : j = k := by omega
    subst ej
    obtain ⟨e', o', q1, q2, q3⟩ := spoilt_ok j m o c x hm hx hp hcc (by omega)
    refine ⟨e', o', ?_, q2, q3.mono (by omega)⟩
    rw [show (((j + 1 : Nat) : Int) - 1) = (j : Int) by omega]
    exact q1
end G03
namespace G03
open PySem PySem.Spec PyProof.Rows L2 Px
/-! ### lists of numbers, side by side -/
theorem nodict_ints : ∀ l : List Int, nodictA (l.map .int) = true
  | [] => rfl
  | i :: l => by
    show (nodict (.int i) && nodictA (l.map .int)) = true
    rw [nodict_ints l]
    rfl
theorem depth_ints : ∀ l : List Int, PyData.depthAll (l.map .int) = 0
  | [] => by simp only [List.map_nil, PyData.depthAll]
  | i :: l => by
    simp only [List.map_cons, PyData.depthAll, depth_ints l, PyData.depth]
    rfl
theorem okEq_ints (l : List Int) : okEq (.list (l.map .int)) = true := by
  unfold okEq
  rw [Bool.and_eq_true, decide_eq_true_eq]
  exact ⟨by simp only [PyData.depth, depth_ints l]; omega, nodict_ints l⟩
theorem eqv_ints : ∀ a b : List Int, PyData.eqvAll (a.map .int) (b.map .int) = decide (a = b)
  | [], [] => by simp only [List.map_nil, PyData.eqvAll]; rfl
  | [], _ :: _ => by simp only [List.map_nil, List.map_cons, PyData.eqvAll]; rfl
  | _ :: _, [] => by simp only [List.map_nil, List.map_cons, PyData.eqvAll]; rfl
  | x :: a, y :: b => by
    simp only [List.map_cons, PyData.eqvAll, PyData.eqv, eqv_ints a b]
    by_cases h : x = y
    · subst h
      rw [beq_self_eq_true, Bool.true_and]
      exact decide_eq_decide.mpr (by simp)
    · rw [beq_false_of_ne h, Bool.false_and]
      exact (decide_eq_false (by simp [h])).symm
theorem eq_ints (a b : List Int) : eqE (.list (a.map .int)) (.list (b.map .int)) = some (decide (a = b)) := by
  show (if (okEq (.list (a.map .int)) && okEq (.list (b.map .int))) = true then some (PyData.eqv (.list (a.map .int)) (.list (b.map .int))) else none) = _
  rw [okEq_ints a, okEq_ints b, if_pos (show (true && true) = true from rfl)]
  simp only [PyData.eqv, eqv_ints]
theorem scal_ints (l : List Int) : (l.map PyData.int).all scalD = true := by
  rw [List.all_eq_true]
  intro d hd
  obtain ⟨i, _, rfl⟩ := List.mem_map.mp hd
  rfl
theorem in_ints (i : Int) (l : List Int) : inD (.int i) (.list (l.map .int)) = some (decide (i ∈ l)) := by
  show (if (scalD (.int i) && (l.map PyData.int).all scalD) = true then _ else _) = _
  rw [scal_ints, if_pos (show (scalD (.int i) && true) = true from rfl)]
  congr 1
  rw [List.any_map]
  induction l with
  | nil => rfl
  | cons x l ih =>
    rw [List.any_cons, ih]
    show ((PyData.eqv (.int x) (.int i)) || decide (i ∈ l)) = _
    simp only [PyData.eqv]
    by_cases h : x = i
    · subst h; simp
    · rw [beq_false_of_ne h, Bool.false_or]
      exact decide_eq_decide.mpr (by simp [Ne.symm h])
/-- whether a thing is just this text -/
def isW : PyData → Str → Bool
  | .str t, s => decide (t = s)
  | _, _ => false
theorem eqX_str (d : PyData) (s : Str) : eqX d (.str s) = some (isW d s) := by
  cases d with
  | str t => rfl
  | none => rfl
  | bool _ => rfl
  | int _ => rfl
  | list _ => rfl
  | tuple _ => rfl
  | dict _ => rfl
theorem eqv_strs (a b : Str) : PyData.eqv (.str a) (.str b) = decide (b = a) := by
  rw [eqv_str]
  exact decide_eq_decide.mpr ⟨Eq.symm, Eq.symm⟩
theorem inX_two (d : PyData) (a b : Str) : inX d (.tuple [.str a, .str b]) = some (isW d a || isW d b) := by
  cases d with
  | str t =>
    show some ((PyData.eqv (.str a) (.str t)) || (PyData.eqv (.str b) (.str t) || false)) = _
    rw [eqv_strs, eqv_strs, Bool.or_false]
    rfl
  | none => rfl
  | bool _ => rfl
  | int _ => rfl
  | list _ => rfl
  | tuple _ => rfl
  | dict _ => rfl
theorem nodict2 (own : List Int) (x : List Int) : okEq (.tuple [.list (own.map .int), .list (x.map .int)]) = true := by
  unfold okEq
  rw [Bool.and_eq_true, decide_eq_true_eq]
  refine ⟨by simp only [PyData.depth, PyData.depthAll, depth_ints]; omega, ?_⟩
  show (nodictA (own.map .int) && (nodictA (x.map .int) && true)) = true
  rw [nodict_ints, nodict_ints]
  rfl
theorem inX_lists (own x y : List Int) : inX (.list (own.map .int)) (.tuple [.list (x.map .int), .list (y.map .int)]) = some (decide (own = x) || decide (own = y)) := by
  show (if (true && false) = true then some false else if (okEq (.list (own.map .int)) && okEq (.tuple [.list (x.map .int), .list (y.map .int)])) = true then some (List.any [.list (x.map .int), .list (y.map .int)] fun z => PyData.eqv z (.list (own.map .int))) else inD (.list (own.map .int)) (.tuple [.list (x.map .int), .list (y.map .int)])) = _
  rw [if_neg (by decide), okEq_ints, nodict2, if_pos (show (true && true) = true from rfl)]
  show some (PyData.eqv (.list (x.map .int)) (.list (own.map .int)) || (PyData.eqv (.list (y.map .int)) (.list (own.map .int)) || false)) = _
  simp only [PyData.eqv, eqv_ints, Bool.or_false]
  congr 2 <;> exact decide_eq_decide.mpr ⟨Eq.symm, Eq.symm⟩
theorem eq_len (k j : Nat) : eqE (.int k) (.int j) = some (decide (k = j)) := by
  show some ((k : Int) == j) = _
  congr 1
  by_cases h : k = j
  · subst h; simp
  · rw [decide_eq_false h]
    exact beq_false_of_ne (by omega)
/-! ### what a word makes of places -/
def oneP : List Int → Int
  | [a] => a
  | _ => 0
def twoP : List Int → Int
  | [a, b] => if a = b then a else 0
  | _ => 0
def wordP (w : PyData) (own : List Int) : Int :=
  if isW w "not" = true then oneP own
  else if (isW w "both" || isW w "either") = true then twoP own
  else if isW w "turned" = true then (if own = [2] then 2 else 0)
  else if isW w "chain" = true then (if own = [2, 2] then 2 else 0)
  else if isW w "some" = true then (if own = [2] then 1 else 0)
  else 0
theorem isW_one {w : PyData} {a b : Str} (h : isW w a = true) (n : a ≠ b) : isW w b = false := by
  cases w with
  | str t =>
    have e : t = a := of_decide_eq_true h
    subst e
    exact decide_eq_false n
  | _ => cases h
section
variable {w p : PyData} {own : List Int} {st : Sto}
theorem t_eqX {f : FE} {sl : Sls} (s : Str) (hf : f sl st = .ok (.val w) st) : t2 eqX f (eD (.str s)) sl st = .ok (isW w s) st := t2_ok hf rfl rfl rfl (eqX_str w s)
theorem t_inX {f : FE} {sl : Sls} (a b : Str) (hf : f sl st = .ok (.val w) st) : t2 inX f (eTup (aCons (eD (.str a)) (aCons (eD (.str b)) aNil))) sl st = .ok (isW w a || isW w b) st := t2_ok (e2 := .val (.tuple [.str a, .str b])) hf rfl rfl rfl (inX_two w a b)
theorem t_one {f : FE} {sl : Sls} (a : Int) (hf : f sl st = .ok (.val (.list (own.map .int))) st) : t2 eqE f (eLst (aCons (eD (.int a)) aNil)) sl st = .ok (decide (own = [a])) st := t2_ok (e2 := .new (.lst [.int a])) hf rfl rfl rfl (eq_ints own [a])
theorem t_twos {f : FE} {sl : Sls} (a b : Int) (hf : f sl st = .ok (.val (.list (own.map .int))) st) : t2 eqE f (eLst (aCons (eD (.int a)) (aCons (eD (.int b)) aNil))) sl st = .ok (decide (own = [a, b])) st := t2_ok (e2 := .new (.lst [.int a, .int b])) hf rfl rfl rfl (eq_ints own [a, b])
theorem t_len {f : FE} {sl : Sls} (n : Nat) (hf : f sl st = .ok (.val (.list (own.map .int))) st) : t2 eqE (un lenD (aCons f aNil)) (eD (.int n)) sl st = .ok (decide (own.length = n)) st := by
  refine t2_ok (e1 := .val (.int own.length)) (e2 := .val (.int n)) (st1 := st) (un_ok (r := .val (.int own.length)) (es := [.val (.list (own.map .int))]) (ds := [.list (own.map .int)]) (aCons_ok hf rfl) rfl ?_) rfl rfl rfl (eq_len own.length n)
  show some (OR.val (.int (own.map PyData.int).length)) = _
  rw [List.length_map]
end
end G03
namespace G03
open PySem PySem.Spec PyProof.Rows L2 Px
section
variable {w : PyData} {own : List Int}
theorem wordP_not (h : isW w "not" = true) : wordP w own = oneP own := by unfold wordP; rw [if_pos h]
theorem wordP_be (h : (isW w "both" || isW w "either") = true) : wordP w own = twoP own := by
  unfold wordP
  have n : isW w "not" = false := by
    rcases Bool.or_eq_true _ _ ▸ h with h | h <;> exact isW_one h (by decide)
  rw [n, if_neg Bool.false_ne_true, if_pos h]
theorem wordP_t (h : isW w "turned" = true) : wordP w own = if own = [2] then 2 else 0 := by
  unfold wordP
  rw [isW_one (b := "not") h (by decide), isW_one (b := "both") h (by decide), isW_one (b := "either") h (by decide), if_neg Bool.false_ne_true, if_neg (by decide), if_pos h]
theorem wordP_c (h : isW w "chain" = true) : wordP w own = if own = [2, 2] then 2 else 0 := by
  unfold wordP
  rw [isW_one (b := "not") h (by decide), isW_one (b := "both") h (by decide), isW_one (b := "either") h (by decide), isW_one (b := "turned") h (by decide), if_neg Bool.false_ne_true, if_neg (by decide), if_neg Bool.false_ne_true, if_pos h]
theorem wordP_s (h : isW w "some" = true) : wordP w own = if own = [2] then 1 else 0 := by
  unfold wordP
  rw [isW_one (b := "not") h (by decide), isW_one (b := "both") h (by decide), isW_one (b := "either") h (by decide), isW_one (b := "turned") h (by decide), isW_one (b := "chain") h (by decide), if_neg Bool.false_ne_true, if_neg (by decide), if_neg Bool.false_ne_true, if_neg Bool.false_ne_true, if_pos h]
theorem wordP_no (h1 : isW w "not" = false) (h2 : (isW w "both" || isW w "either") = false) (h3 : isW w "turned" = false) (h4 : isW w "chain" = false) (h5 : isW w "some" = false) : wordP w own = 0 := by
  unfold wordP
  rw [h1, h2, h3, h4, h5]
  rfl
theorem wordP_zero (h : (0 : Int) ∈ own) : wordP w own = 0 := by
  unfold wordP
  split
  · match own, h with
    | [a], h => exact (List.mem_singleton.mp h).symm
    | _ :: _ :: _, _ => rfl
  · split
    · match own, h with
      | [_], _ => rfl
      | [a, b], h =>
        show (if a = b then a else 0) = 0
        split
        · rename_i e
          subst e
          simp at h
          exact h.symm
        · rfl
      | _ :: _ :: _ :: _, _ => rfl
    · split
      · split
        · rename_i e; subst e; simp at h
        · rfl
      · split
        · split
          · rename_i e; subst e; simp at h
          · rfl
        · split
          · split
            · rename_i e; subst e; simp at h
            · rfl
          · rfl
end
def lTail : FS := (sSeq (sIf (t2 inD (eD (.int 0)) (eName 4))
    (sRet (eD (.int 0)))
    sNext)
    (sSeq (sIf (t2 inX (eName 3) (eTup (aCons (eD (.str "turned")) (aCons (eD (.str "some")) aNil))))
    (sRet (eIf (t2 eqE (eName 4) (eLst (aCons (eD (.int 2)) aNil))) (u2 ixD (eLst (aCons (eD (.int 2)) (aCons (eD (.int 1)) aNil))) (un intD (aCons (u2 (asB eqX) (eName 3) (eD (.str "some"))) aNil))) (eD (.int 0))))
    sNext)
    (sSeq (sIf (t2 eqX (eName 3) (eD (.str "chain")))
    (sRet (eIf (t2 eqE (eName 4) (eLst (aCons (eD (.int 2)) (aCons (eD (.int 2)) aNil)))) (eD (.int 2)) (eD (.int 0))))
    sNext)
    (sSeq (sIf (t2 eqX (eName 3) (eD (.str "not")))
    (sRet (eIf (t2 eqE (un lenD (aCons (eName 4) aNil)) (eD (.int 1))) (u2 ixD (eName 4) (eD (.int 0))) (eD (.int 0))))
    sNext)
    (sRet (eIf (tAndF (t2 inX (eName 3) (eTup (aCons (eD (.str "both")) (aCons (eD (.str "either")) aNil)))) (t2 inX (eName 4) (eTup (aCons (eLst (aCons (eD (.int 1)) (aCons (eD (.int 1)) aNil))) (aCons (eLst (aCons (eD (.int 2)) (aCons (eD (.int 2)) aNil))) aNil))))) (u2 ixD (eName 4) (eD (.int 0))) (eD (.int 0))))))))
theorem tail_ok {nt th lf p : Sl} {w : PyData} {own : List Int} (hr : ∀ a ∈ own, 0 ≤ a ∧ a ≤ 2) : lTail [nt, th, lf, .val w, .val (.list (own.map .int)), p] [] = .rt (.int (wordP w own)) [] := by
  unfold lTail
  have n3 : eName 3 [nt, th, lf, .val w, .val (.list (own.map .int)), p] [] = .ok (.val w) [] := rfl
  have n4 : eName 4 [nt, th, lf, .val w, .val (.list (own.map .int)), p] [] = .ok (.val (.list (own.map .int))) [] := rfl
  have z : t2 inD (eD (.int 0)) (eName 4) [nt, th, lf, .val w, .val (.list (own.map .int)), p] [] = .ok (decide ((0 : Int) ∈ own)) [] := t2_ok (e1 := .val (.int 0)) rfl n4 rfl rfl (in_ints 0 own)
  by_cases h0 : (0 : Int) ∈ own
  · rw [wordP_zero h0]
    rw [decide_eq_true h0] at z
    exact sSeq_rt (sIf_ok z rfl)
  rw [decide_eq_false h0] at z
  refine sSeq_ok (sIf_ok z rfl) ?_
  have nts := t_inX "turned" "some" n3
  have nc := t_eqX "chain" n3
  have nn := t_eqX "not" n3
  have nb := t_inX "both" "either" n3
  have o2 := t_one 2 n4
  have o22 := t_twos 2 2 n4
  have l1 : t2 eqE (un lenD (aCons (eName 4) aNil)) (eD (.int 1)) [nt, th, lf, .val w, .val (.list (own.map .int)), p] [] = .ok (decide (own.length = 1)) [] := t_len 1 n4
  have io : t2 inX (eName 4) (eTup (aCons (eLst (aCons (eD (.int 1)) (aCons (eD (.int 1)) aNil))) (aCons (eLst (aCons (eD (.int 2)) (aCons (eD (.int 2)) aNil))) aNil))) [nt, th, lf, .val w, .val (.list (own.map .int)), p] [] = .ok (decide (own = [1, 1]) || decide (own = [2, 2])) [] :=
    t2_ok (e2 := .val (.tuple [.list [.int 1, .int 1], .list [.int 2, .int 2]])) n4 rfl rfl rfl (inX_lists own [1, 1] [2, 2])
  have sm : ∀ b : Bool, isW w "some" = b → u2 ixD (eLst (aCons (eD (.int 2)) (aCons (eD (.int 1)) aNil))) (un intD (aCons (u2 (asB eqX) (eName 3) (eD (.str "some"))) aNil)) [nt, th, lf, .val w, .val (.list (own.map .int)), p] [] = .ok (.val (.int (if b = true then 1 else 2))) [] := fun b hb => by
    have e1 : u2 (asB eqX) (eName 3) (eD (.str "some")) [nt, th, lf, .val w, .val (.list (own.map .int)), p] [] = .ok (.val (.bool b)) [] := by
      refine u2_ok (r := .val (.bool b)) n3 rfl rfl rfl ?_
      show (eqX w (.str "some")).map (fun c => OR.val (.bool c)) = _
      rw [eqX_str, hb]
      rfl
    refine u2_ok (r := .val (.int (if b = true then 1 else 2))) (e1 := .new (.lst [.int 2, .int 1])) (e2 := .val (.int (if b = true then 1 else 0))) (st1 := []) rfl (un_ok (r := .val (.int (if b = true then 1 else 0))) (es := [.val (.bool b)]) (ds := [.bool b]) (aCons_ok e1 rfl) rfl ?_) rfl rfl ?_
    · cases b <;> rfl
    · cases b <;> rfl
  by_cases ct : isW w "turned" = true
  · rw [wordP_t ct]
    rw [ct, Bool.true_or] at nts
    have s := sm false (isW_one ct (by decide))
    by_cases h : own = [2]
    · rw [if_pos h]
      rw [decide_eq_true h] at o2
      exact sSeq_rt (sIf_ok nts (sRet_ok (e1 := .val (.int 2)) (st1 := []) (eIf_ok o2 s) rfl))
    · rw [if_neg h]
      rw [decide_eq_false h] at o2
      exact sSeq_rt (sIf_ok nts (sRet_ok (e1 := .val (.int 0)) (st1 := []) (eIf_ok o2 rfl) rfl))
  by_cases cs : isW w "some" = true
  · rw [wordP_s cs]
    rw [cs, Bool.or_true] at nts
    have s := sm true cs
    by_cases h : own = [2]
    · rw [if_pos h]
      rw [decide_eq_true h] at o2
      exact sSeq_rt (sIf_ok nts (sRet_ok (e1 := .val (.int 1)) (st1 := []) (eIf_ok o2 s) rfl))
    · rw [if_neg h]
      rw [decide_eq_false h] at o2
      exact sSeq_rt (sIf_ok nts (sRet_ok (e1 := .val (.int 0)) (st1 := []) (eIf_ok o2 rfl) rfl))
  have ct' := Bool.eq_false_iff.mpr ct
  have cs' := Bool.eq_false_iff.mpr cs
  rw [ct', cs', Bool.or_false] at nts
  refine sSeq_ok (sIf_ok nts rfl) ?_
  by_cases cc : isW w "chain" = true
  · rw [wordP_c cc]
    rw [cc] at nc
    by_cases h : own = [2, 2]
    · rw [if_pos h]
      rw [decide_eq_true h] at o22
      exact sSeq_rt (sIf_ok nc (sRet_ok (e1 := .val (.int 2)) (st1 := []) (eIf_ok o22 rfl) rfl))
    · rw [if_neg h]
      rw [decide_eq_false h] at o22
      exact sSeq_rt (sIf_ok nc (sRet_ok (e1 := .val (.int 0)) (st1 := []) (eIf_ok o22 rfl) rfl))
  have cc' := Bool.eq_false_iff.mpr cc
  rw [cc'] at nc
  refine sSeq_ok (sIf_ok nc rfl) ?_
  by_cases cn : isW w "not" = true
  · rw [wordP_not cn]
    rw [cn] at nn
    by_cases h : own.length = 1
    · rw [decide_eq_true h] at l1
      match own, h with
      | [a], _ =>
        have u : u2 ixD (eName 4) (eD (.int 0)) [nt, th, lf, .val w, .val (.list ([a].map .int)), p] [] = .ok (.val (.int a)) [] := rfl
        refine sSeq_rt (sIf_ok nn (bif_t rfl ?_))
        refine sRet_ok (e1 := .val (.int a)) (st1 := []) ?_ rfl
        exact eIf_ok l1 (bif_t rfl u)
    · rw [decide_eq_false h] at l1
      have e : oneP own = 0 := by
        match own, h with
        | [], _ => rfl
        | [a], h => exact absurd rfl h
        | _ :: _ :: _, _ => rfl
      rw [e]
      exact sSeq_rt (sIf_ok nn (sRet_ok (e1 := .val (.int 0)) (st1 := []) (eIf_ok l1 rfl) rfl))
  have cn' := Bool.eq_false_iff.mpr cn
  rw [cn'] at nn
  refine sSeq_ok (sIf_ok nn rfl) ?_
  by_cases cb : (isW w "both" || isW w "either") = true
  · rw [wordP_be cb]
    rw [cb] at nb
    by_cases h : (decide (own = [1, 1]) || decide (own = [2, 2])) = true
    · rw [h] at io
      rw [Bool.or_eq_true, decide_eq_true_eq, decide_eq_true_eq] at h
      rcases h with h | h
      · subst h
        exact sRet_ok (e1 := .val (.int 1)) (st1 := []) (eIf_ok (tAndF_ok nb (bif_t rfl io)) rfl) rfl
      · subst h
        exact sRet_ok (e1 := .val (.int 2)) (st1 := []) (eIf_ok (tAndF_ok nb (bif_t rfl io)) rfl) rfl
    · rw [Bool.eq_false_iff.mpr h] at io
      have e : twoP own = 0 := by
        match own, h, hr, h0 with
        | [], _, _, _ => rfl
        | [_], _, _, _ => rfl
        | [a, b], h, hr, h0 =>
          show (if a = b then a else 0) = 0
          split
          · rename_i q
            subst q
            have := hr a List.mem_cons_self
            have n0 : a ≠ 0 := fun z => h0 (by rw [z]; exact List.mem_cons_self)
            have n1 : a ≠ 1 := fun z => h (by rw [z]; rfl)
            have n2 : a ≠ 2 := fun z => h (by rw [z]; rfl)
            omega
          · rfl
        | _ :: _ :: _ :: _, _, _, _ => rfl
      rw [e]
      exact sRet_ok (e1 := .val (.int 0)) (st1 := []) (eIf_ok (tAndF_ok nb (bif_t rfl io)) rfl) rfl
  · have cb' := Bool.eq_false_iff.mpr cb
    rw [wordP_no cn' cb' ct' cc' cs']
    rw [cb'] at nb
    exact sRet_ok (e1 := .val (.int 0)) (st1 := []) (eIf_ok (tAndF_ok nb (bif_f rfl rfl)) rfl) rfl
end G03
namespace G03
open PySem PySem.Spec PyProof.Rows L2 Px
theorem call1_val {D : FD} {f : FE} {sl : Sls} {st : Sto} {a d : PyData} (hf : f sl st = .ok (.val a) st) (hD : D [.val a] = .rt d []) : eCall D [false] (aCons f aNil) sl st = .ok (.val d) st := by
  have := eCall_ok (sl := sl) (st := st) (D := D) (ms := [false]) (es := [.val a]) (rs := [.inl a]) (as := [.val a]) (ns := []) (os := []) (st1 := st) (st2 := st) (aCons_ok (g := aNil) (es := []) hf rfl) rfl rfl (by decide) hD rfl
  rw [this]
  cases st <;> rfl
theorem call2_val {D : FD} {f g : FE} {sl : Sls} {st : Sto} {a b d : PyData} (hf : f sl st = .ok (.val a) st) (hg : g sl st = .ok (.val b) st) (hD : D [.val a, .val b] = .rt d []) : eCall D [false, false] (aCons f (aCons g aNil)) sl st = .ok (.val d) st := by
  have := eCall_ok (sl := sl) (st := st) (D := D) (ms := [false, false]) (es := [.val a, .val b]) (rs := [.inl a, .inl b]) (as := [.val a, .val b]) (ns := []) (os := []) (st1 := st) (st2 := st) (aCons_ok (es := [.val b]) hf (aCons_ok (g := aNil) (es := []) hg rfl)) rfl rfl (by decide) hD rfl
  rw [this]
  cases st <;> rfl
theorem call3_val {D : FD} {f g h : FE} {sl : Sls} {st st1 : Sto} {a b c d : PyData} (hf : f sl st = .ok (.val a) st1) (hg : g sl st1 = .ok (.val b) st1) (hh : h sl st1 = .ok (.val c) st1) (hD : D [.val a, .val b, .val c] = .rt d []) : eCall D [false, false, false] (aCons f (aCons g (aCons h aNil))) sl st = .ok (.val d) st1 := by
  have := eCall_ok (sl := sl) (st := st) (D := D) (ms := [false, false, false]) (es := [.val a, .val b, .val c]) (rs := [.inl a, .inl b, .inl c]) (as := [.val a, .val b, .val c]) (ns := []) (os := []) (st1 := st1) (st2 := st1) (aCons_ok hf (aCons_ok (es := [.val c]) hg (aCons_ok (g := aNil) (es := []) hh rfl))) rfl rfl (by decide) hD rfl
  rw [this]
  cases st1 <;> rfl
/-! ### places of a thing -/
def look : List (Str × Int) → Str → Int
  | [], _ => 0
  | p :: r, s => if p.1 = s then p.2 else look r s
def plc (ps : List (Str × Int)) : Nat → PyData → Int
  | 0 => fun d => match d with
    | .str s => look ps s
    | _ => 0
  | k + 1 => fun d => match d with
    | .str s => look ps s
    | .tuple (w :: xs) => wordP w (xs.map (plc ps k))
    | _ => 0
theorem look_rng {s : Str} : ∀ {ps : List (Str × Int)}, (∀ p ∈ ps, p.2 = 1 ∨ p.2 = 2) → 0 ≤ look ps s ∧ look ps s ≤ 2
  | [], _ => by show (0 : Int) ≤ 0 ∧ (0 : Int) ≤ 2; omega
  | p :: r, h => by
    show 0 ≤ (if p.1 = s then p.2 else look r s) ∧ (if p.1 = s then p.2 else look r s) ≤ 2
    split
    · have := h p List.mem_cons_self; omega
    · exact look_rng fun q hq => h q (List.mem_cons_of_mem _ hq)
theorem wordP_rng {w : PyData} {own : List Int} (h : ∀ a ∈ own, 0 ≤ a ∧ a ≤ 2) : 0 ≤ wordP w own ∧ wordP w own ≤ 2 := by
  unfold wordP
  split
  · match own, h with
    | [], _ => show (0 : Int) ≤ 0 ∧ (0 : Int) ≤ 2; omega
    | [a], h => exact h a List.mem_cons_self
    | _ :: _ :: _, _ => show (0 : Int) ≤ 0 ∧ (0 : Int) ≤ 2; omega
  · split
    · match own, h with
      | [], _ => show (0 : Int) ≤ 0 ∧ (0 : Int) ≤ 2; omega
      | [a], h => show (0 : Int) ≤ 0 ∧ (0 : Int) ≤ 2; omega
      | [a, b], h =>
        show 0 ≤ (if a = b then a else 0) ∧ (if a = b then a else 0) ≤ 2
        split
        · exact h a List.mem_cons_self
        · omega
      | _ :: _ :: _ :: _, _ => show (0 : Int) ≤ 0 ∧ (0 : Int) ≤ 2; omega
    · repeat' split
      all_goals omega
theorem plc_rng {ps : List (Str × Int)} (h : ∀ p ∈ ps, p.2 = 1 ∨ p.2 = 2) : ∀ (k : Nat) (d : PyData), 0 ≤ plc ps k d ∧ plc ps k d ≤ 2
  | k, .str s => by
    have : plc ps k (.str s) = look ps s := by cases k <;> rfl
    rw [this]
    exact look_rng h
  | 0, .tuple _ => by show (0 : Int) ≤ 0 ∧ (0 : Int) ≤ 2; omega
  | k + 1, .tuple [] => by show (0 : Int) ≤ 0 ∧ (0 : Int) ≤ 2; omega
  | k + 1, .tuple (w :: xs) => by
    show 0 ≤ wordP w (xs.map (plc ps k)) ∧ wordP w (xs.map (plc ps k)) ≤ 2
    refine wordP_rng fun a ha => ?_
    obtain ⟨x, _, rfl⟩ := List.mem_map.mp ha
    exact plc_rng h k x
  | 0, .none => by show (0 : Int) ≤ 0 ∧ (0 : Int) ≤ 2; omega
  | 0, .bool _ => by show (0 : Int) ≤ 0 ∧ (0 : Int) ≤ 2; omega
  | 0, .int _ => by show (0 : Int) ≤ 0 ∧ (0 : Int) ≤ 2; omega
  | 0, .list _ => by show (0 : Int) ≤ 0 ∧ (0 : Int) ≤ 2; omega
  | 0, .dict _ => by show (0 : Int) ≤ 0 ∧ (0 : Int) ≤ 2; omega
  | _ + 1, .none => by show (0 : Int) ≤ 0 ∧ (0 : Int) ≤ 2; omega
  | _ + 1, .bool _ => by show (0 : Int) ≤ 0 ∧ (0 : Int) ≤ 2; omega
  | _ + 1, .int _ => by show (0 : Int) ≤ 0 ∧ (0 : Int) ≤ 2; omega
  | _ + 1, .list _ => by show (0 : Int) ≤ 0 ∧ (0 : Int) ≤ 2; omega
  | _ + 1, .dict _ => by show (0 : Int) ≤ 0 ∧ (0 : Int) ≤ 2; omega
theorem plc_other {ps : List (Str × Int)} {d : PyData} (k : Nat) (h1 : asStr d = false) (h2 : asTup d = false) : plc ps k d = 0 := by
  cases d <;> first | (cases h1; done) | (cases h2; done) | (cases k <;> rfl)
/-! ### the dict of notions -/
def kv (p : Str × Int) : PyData × PyData := (.str p.1, .int p.2)
theorem pairs_nd : ∀ ps : List (Str × Int), pairsD (ps.map nd) = some (ps.map kv)
  | [] => rfl
  | p :: r => by
    show (match pairsD (r.map nd) with
      | some l => some ((PyData.str p.1, PyData.int p.2) :: l)
      | none => none) = _
    rw [pairs_nd r]
    rfl
theorem has_kv (s : Str) (ps : List (Str × Int)) : hasD (.inr s) (ps.map kv) = decide (s ∈ ps.map (·.1)) := by
  unfold hasD
  induction ps with
  | nil => rfl
  | cons p r ih =>
    rw [List.map_cons, List.any_cons, ih]
    show (decide (some (Sum.inr p.1) = some (Sum.inr s : Key)) || decide (s ∈ r.map (·.1))) = _
    by_cases e : p.1 = s
    · subst e
      rw [decide_eq_true rfl, Bool.true_or, decide_eq_true (by rw [List.map_cons]; exact List.mem_cons_self)]
    · rw [decide_eq_false (fun z => e (Sum.inr.inj (Option.some.inj z))), Bool.false_or]
      exact decide_eq_decide.mpr (by rw [List.map_cons, List.mem_cons]; exact ⟨.inr, fun z => z.elim (fun q => absurd q.symm e) id⟩)
theorem mk_nodup : ∀ (r acc : List (Str × Int)), ((acc ++ r).map (·.1)).Nodup → (r.map kv).foldl (fun acc p => match keyS p.1 with | some k => putD k p.2 acc | none => acc) (acc.map kv) = (acc ++ r).map kv
  | [], acc, _ => by rw [List.append_nil]; rfl
  | p :: r, acc, h => by
    have np : p.1 ∉ acc.map (·.1) := by
      rw [List.map_append, List.nodup_append] at h
      exact fun z => h.2.2 _ z p.1 (by rw [List.map_cons]; exact List.mem_cons_self) rfl
    have e : putD (.inr p.1) (.int p.2) (acc.map kv) = (acc ++ [p]).map kv := by
      unfold putD
      rw [has_kv, decide_eq_false np, if_neg Bool.false_ne_true, List.map_append]
      rfl
    rw [List.map_cons, List.foldl_cons]
    show (r.map kv).foldl _ (putD (.inr p.1) (.int p.2) (acc.map kv)) = _
    rw [e, mk_nodup r (acc ++ [p]) (by rw [List.append_assoc]; exact h), List.append_assoc]
    rfl
theorem dict_nd {ps : List (Str × Int)} (h : (ps.map (·.1)).Nodup) : dictD [.tuple (ps.map nd)] = some (.new (.dic (ps.map kv))) := by
  show (match pairsD (ps.map nd) with
    | some l => some (OR.new (.dic (mkD l)))
    | none => none) = _
  rw [pairs_nd]
  show some (OR.new (.dic (mkD (ps.map kv)))) = _
  have e : mkD (ps.map kv) = ps.map kv := mk_nodup ps [] (by simpa using h)
  rw [e]
theorem val_kv (s : Str) : ∀ ps : List (Str × Int), (valD (.inr s) (ps.map kv)).getD (.int 0) = .int (look ps s)
  | [] => rfl
  | p :: r => by
    show (if (some (Sum.inr p.1) : Option Key) = some (.inr s) then some (PyData.int p.2) else valD (.inr s) (r.map kv)).getD (.int 0) = .int (if p.1 = s then p.2 else look r s)
    by_cases e : p.1 = s
    · rw [if_pos (by rw [e]), if_pos e]
      rfl
    · rw [if_neg (fun z => e (Sum.inr.inj (Option.some.inj z))), if_neg e]
      exact val_kv s r
theorem ix_headT (w : PyData) (xs : List PyData) : ixD (.tuple (w :: xs)) (.int 0) = some (.val w) := (ix_nat (ds := w :: xs) (j := 0) (by simp)).2
theorem head_ev {sl : Sls} {st : Sto} {i : Nat} {w : PyData} {xs : List PyData} (h : sl[i]? = some (.val (.tuple (w :: xs)))) : u2 ixD (eName i) (eD (.int 0)) sl st = .ok (.val w) st := by
  have e : eName i sl st = .ok (.val (.tuple (w :: xs))) st := by unfold eName; rw [h]
  exact u2_ok (r := .val w) e rfl rfl rfl (ix_headT w xs)
/-! ### both ways about -/
theorem rest_ev {i : Nat} {sl : Sls} {st : Sto} {w : PyData} {xs : List PyData} (h : sl[i]? = some (.val (.tuple (w :: xs)))) : eCut (eName i) (oInt (eD (.int 1))) oNone sl st = .ok (.val (.tuple xs)) st := by
  have e : eName i sl st = .ok (.val (.tuple (w :: xs))) st := by unfold eName; rw [h]
  have := cut_ev (lo := some 1) (hi := none) e (l := oInt (eD (.int 1))) (h := oNone) rfl rfl
  rw [this]
  have c := cut_from (w :: xs) 1 (by simp)
  rw [show ((1 : Nat) : Int) = 1 from rfl] at c
  rw [c]
  rfl
theorem own_ev {D : FD} {nt : PyData} {sl : Sls} {v : Nat} {k : Nat} {w : PyData} {xs : List PyData} {F : PyData → Int} (h1 : sl[1]? = some (.val (.tuple (w :: xs)))) (h0 : sl[0]? = some (.val nt)) (h2 : sl[2]? = some (.val (.int (k + 1 : Nat)))) (hv : 2 < v) (hv2 : v < sl.length) (hz : xs.length ≤ 1000)
    (hD : ∀ x ∈ xs, D [.val nt, .val x, .val (.int k)] = .rt (.int (F x)) []) :
    eLc [v] (iSeq (eCut (eName 1) (oInt (eD (.int 1))) oNone)) (gN v) tTrue (eCall D [false, false, false] (aCons (eName 0) (aCons (eName v) (aCons (u2 subD (eName 2) (eD (.int 1))) aNil)))) sl [] = .ok (.new (.lst ((xs.map F).map .int))) [] := by
  have go := lcGo_map (h := gN v) (t := tTrue) (f := eCall D [false, false, false] (aCons (eName 0) (aCons (eName v) (aCons (u2 subD (eName 2) (eD (.int 1))) aNil)))) (sl0 := wipeS sl [v]) (st := []) (fun _ => true) (fun x => .int (F x)) xs (by
    intro x hx
    refine ⟨_, rfl, rfl, fun _ => ⟨.val (.int (F x)), ?_, rfl⟩⟩
    have g : ∀ j : Nat, j < v → ((wipeS sl [v]).set v (.val x))[j]? = sl[j]? := fun j hj => by
      show ((sl.set v .non).set v (.val x))[j]? = _
      rw [List.getElem?_set_ne (by omega), List.getElem?_set_ne (by omega)]
    have gv : ((wipeS sl [v]).set v (.val x))[v]? = some (.val x) := by
      show ((sl.set v .non).set v (.val x))[v]? = _
      rw [List.getElem?_set_self (by rw [List.length_set]; exact hv2)]
    refine call3_val (a := nt) (b := x) (c := .int k) (by unfold eName; rw [g 0 (by omega), h0]) (by unfold eName; rw [gv]) ?_ (hD x hx)
    refine u2_ok (r := .val (.int k)) (a := .int (k + 1 : Nat)) (b := .int 1) (e1 := .val (.int (k + 1 : Nat))) (e2 := .val (.int 1)) (st1 := []) (by unfold eName; rw [g 2 (by omega), h2]) rfl rfl rfl ?_
    show some (OR.val (.int (((k + 1 : Nat) : Int) - 1))) = _
    rw [show (((k + 1 : Nat) : Int) - 1) = (k : Int) by omega])
  rw [List.filter_eq_self.mpr (fun _ _ => rfl)] at go
  rw [List.map_map]
  exact eLc_ok (ds := xs) (st1 := []) (iSeq_tup (e1 := .val (.tuple xs)) (rest_ev h1) rfl) go (by rw [List.length_map]; unfold Lim; omega)
section
variable {ps : List (Str × Int)} (hn : (ps.map (·.1)).Nodup) (hp : ∀ p ∈ ps, p.2 = 1 ∨ p.2 = 2) (h3 : ps.length ≤ 3) {m : Nat} (hm : m ≤ 10)
include hn hp h3 hm
end
end G03
namespace G03
open PySem PySem.Spec PyProof.Rows L2 Px
/-! ### what is refused -/
section
variable {sl : Sls} {st st1 : Sto} {x : Exn} {f : FE}
theorem call2_exc {f2 : FE} {D : FD} {a b : PyData} (h : f sl st = .ok (.val a) st) (h2 : f2 sl st = .ok (.val b) st) (hD : D [.val a, .val b] = .exc x []) : eCall D [false, false] (aCons f (aCons f2 aNil)) sl st = .exc x st := by
  unfold eCall aCons
  rw [h]
  dsimp only
  rw [h2]
  show (match D [.val a, .val b] with
    | .fail => .fail
    | .rt d os => if os.length = 0 then .ok (.val d) (putAll st [] os) else .fail
    | .rn o os => if os.length = 0 then .ok (.new o) (putAll st [] os) else .fail
    | .exc x os => if os.length = 0 then .exc x (putAll st [] os) else .fail : Re EV) = _
  rw [hD]
  cases st <;> rfl
theorem call3_exc {f2 f3 : FE} {D : FD} {a b c : PyData} (h : f sl st = .ok (.val a) st) (h2 : f2 sl st = .ok (.val b) st) (h3 : f3 sl st = .ok (.val c) st) (hD : D [.val a, .val b, .val c] = .exc x []) : eCall D [false, false, false] (aCons f (aCons f2 (aCons f3 aNil))) sl st = .exc x st := by
  unfold eCall aCons
  rw [h]
  dsimp only
  rw [h2]
  dsimp only
  rw [h3]
  show (match D [.val a, .val b, .val c] with
    | .fail => .fail
    | .rt d os => if os.length = 0 then .ok (.val d) (putAll st [] os) else .fail
    | .rn o os => if os.length = 0 then .ok (.new o) (putAll st [] os) else .fail
    | .exc x os => if os.length = 0 then .exc x (putAll st [] os) else .fail : Re EV) = _
  rw [hD]
  cases st <;> rfl
theorem sExpr_exc (h : f sl st = .exc x st1) : sExpr f sl st = .exc x sl st1 := by unfold sExpr; rw [h]
theorem sRet_exc (h : f sl st = .exc x st1) : sRet f sl st = .exc x sl st1 := by unfold sRet; rw [h]
end
theorem runD_nx {n : Nat} {g : FS} {as : List Px.Arg} {sl : Sls} {st : Sto} (h : g (slots0 as 0 ++ List.replicate (n - as.length) .non) (cells0 as) = .nx sl st) : runD n g as = .rt .none (outs st) := by unfold runD; rw [h]; rfl
/-! ### notions of the law's own -/
structure Nt (ps : List (Str × Int)) : Prop where
  one : 1 ≤ ps.length
  three : ps.length ≤ 3
  each : ∀ p ∈ ps, NotP p
  nodup : (W6 ++ ps.map (·.1)).Nodup
abbrev nt (ps : List (Str × Int)) : PyData := .tuple (ps.map nd)
theorem Nt.names {ps : List (Str × Int)} (h : Nt ps) : (ps.map (·.1)).Nodup := (List.nodup_append.mp h.nodup).2.1
theorem Nt.places {ps : List (Str × Int)} (h : Nt ps) : ∀ p ∈ ps, p.2 = 1 ∨ p.2 = 2 := fun p hp => (h.each p hp).2
theorem Nt.noword {ps : List (Str × Int)} (h : Nt ps) {s : Str} (hs : s ∈ ps.map (·.1)) : s ∉ W6 := fun z => (List.nodup_append.mp h.nodup).2.2 s z s hs rfl
section
variable {ps : List (Str × Int)} (h : Nt ps) {m j : Nat} {d : PyData} (hm : m ≤ 10) (hd : Sz m j d)
include h
include hm hd
end
end G03
namespace G03
open PySem PySem.Spec PyProof.Rows L2 Px
/-! ### what is a term by its shape -/
def NmS (s : Str) : Prop := NameS s ∧ s ∉ W6
def ar (w : Str) : Nat := if w = "both" ∨ w = "either" ∨ w = "chain" then 2 else 1
def VT : Nat → PyData → Prop
  | 0 => fun d => ∃ s, d = .str s ∧ NmS s
  | k + 1 => fun d => (∃ s, d = .str s ∧ NmS s) ∨ ∃ w xs, d = .tuple (.str w :: xs) ∧ w ∈ W6 ∧ xs.length = ar w ∧ ∀ x ∈ xs, VT k x
theorem VT.nm {s : Str} (h : NmS s) : ∀ k : Nat, VT k (.str s)
  | 0 => ⟨s, rfl, h⟩
  | _ + 1 => .inl ⟨s, rfl, h⟩
theorem VT.mono : ∀ {k j : Nat} {d : PyData}, k ≤ j → VT k d → VT j d
  | 0, j, _, _, ⟨s, e, h⟩ => by rw [e]; exact VT.nm h j
  | k + 1, 0, _, l, _ => absurd l (by omega)
  | k + 1, j + 1, d, l, h => by
    rcases h with h | ⟨w, xs, e, hw, hl, hx⟩
    · exact .inl h
    · exact .inr ⟨w, xs, e, hw, hl, fun x m => VT.mono (by omega) (hx x m)⟩
theorem ar_le (w : Str) : 1 ≤ ar w ∧ ar w ≤ 2 := by
  unfold ar
  split <;> omega
theorem wordP_pos {w : PyData} {own : List Int} (h : 0 < wordP w own) : ∃ s, w = .str s ∧ s ∈ W6 ∧ own.length = ar s := by
  have of : ∀ s : Str, isW w s = true → w = .str s := fun s hs => by
    cases w with
    | str t => rw [show t = s from of_decide_eq_true hs]
    | _ => cases hs
  unfold wordP at h
  by_cases c1 : isW w "not" = true
  · rw [if_pos c1] at h
    refine ⟨"not", of _ c1, by decide, ?_⟩
    match own, h with
    | [a], _ => rfl
    | [], h => exact absurd (show (0 : Int) < 0 from h) (by omega)
    | _ :: _ :: _, h => exact absurd (show (0 : Int) < 0 from h) (by omega)
  rw [if_neg c1] at h
  by_cases c2 : (isW w "both" || isW w "either") = true
  · rw [if_pos c2] at h
    have l : own.length = 2 := by
      match own, h with
      | [_, _], _ => rfl
      | [], h => exact absurd (show (0 : Int) < 0 from h) (by omega)
      | [_], h => exact absurd (show (0 : Int) < 0 from h) (by omega)
      | _ :: _ :: _ :: _, h => exact absurd (show (0 : Int) < 0 from h) (by omega)
    rcases Bool.or_eq_true _ _ ▸ c2 with c | c
    · exact ⟨"both", of _ c, by decide, by rw [l]; decide⟩
    · exact ⟨"either", of _ c, by decide, by rw [l]; decide⟩
  rw [if_neg c2] at h
  by_cases c3 : isW w "turned" = true
  · rw [if_pos c3] at h
    by_cases e : own = [2]
    · exact ⟨"turned", of _ c3, by decide, by rw [e]; decide⟩
    · rw [if_neg e] at h; omega
  rw [if_neg c3] at h
  by_cases c4 : isW w "chain" = true
  · rw [if_pos c4] at h
    by_cases e : own = [2, 2]
    · exact ⟨"chain", of _ c4, by decide, by rw [e]; decide⟩
    · rw [if_neg e] at h; omega
  rw [if_neg c4] at h
  by_cases c5 : isW w "some" = true
  · rw [if_pos c5] at h
    by_cases e : own = [2]
    · exact ⟨"some", of _ c5, by decide, by rw [e]; decide⟩
    · rw [if_neg e] at h; omega
  · rw [if_neg c5] at h; omega
theorem look_pos {s : Str} : ∀ {ps : List (Str × Int)}, 0 < look ps s → s ∈ ps.map (·.1)
  | [], h => absurd (show (0 : Int) < 0 from h) (by omega)
  | p :: r, h => by
    by_cases e : p.1 = s
    · rw [List.map_cons, e]; exact List.mem_cons_self
    · have h' : 0 < (if p.1 = s then p.2 else look r s) := h
      rw [if_neg e] at h'
      rw [List.map_cons]
      exact List.mem_cons_of_mem _ (look_pos h')
theorem vt_of {ps : List (Str × Int)} (hn : Nt ps) : ∀ (k : Nat) (d : PyData), 0 < plc ps k d → VT k d
  | k, .str s, h => by
    have e : plc ps k (.str s) = look ps s := by cases k <;> rfl
    rw [e] at h
    have m := look_pos h
    obtain ⟨p, hp, rfl⟩ := List.mem_map.mp m
    exact VT.nm ⟨(hn.each p hp).1, hn.noword m⟩ k
  | k + 1, .tuple (w :: xs), h => by
    have h' : 0 < wordP w (xs.map (plc ps k)) := h
    obtain ⟨s, rfl, hs, hl⟩ := wordP_pos h'
    rw [List.length_map] at hl
    refine .inr ⟨s, xs, rfl, hs, hl, fun x hx => vt_of hn k x ?_⟩
    have r := (plc_rng hn.places k x).1
    have n0 : plc ps k x ≠ 0 := fun z => by
      rw [wordP_zero (List.mem_map.mpr ⟨x, hx, z⟩)] at h'
      omega
    omega
  | 0, .tuple _, h => absurd (show (0 : Int) < 0 from h) (by omega)
  | k + 1, .tuple [], h => absurd (show (0 : Int) < 0 from h) (by omega)
  | k, .none, h => by rw [plc_other k rfl rfl] at h; omega
  | k, .bool _, h => by rw [plc_other k rfl rfl] at h; omega
  | k, .int _, h => by rw [plc_other k rfl rfl] at h; omega
  | k, .list _, h => by rw [plc_other k rfl rfl] at h; omega
  | k, .dict _, h => by rw [plc_other k rfl rfl] at h; omega
/-! ### its text -/
def jl : List (List Nat) → List Nat
  | [] => []
  | [a] => a
  | a :: b :: l => a ++ 32 :: jl (b :: l)
theorem join_jl : ∀ l : List (List Nat), Txt.join " " (l.map tx) = tx (jl l) := by
  intro l
  rw [TL.join_eq]
  have e0 : (" " : Str) = tx [32] := by decide +kernel
  rw [e0]
  induction l with
  | nil => rfl
  | cons a l ih =>
    cases l with
    | nil => rfl
    | cons b l =>
      show tx a ++ tx [32] ++ Str.join (tx [32]) ((b :: l).map tx) = _
      rw [ih, tx_app, tx_app]
      show tx (a ++ [32] ++ jl (b :: l)) = tx (a ++ 32 :: jl (b :: l))
      rw [List.append_assoc]
      rfl
theorem strs_map : ∀ l : List (List Nat), strsOf (l.map fun c => .str (tx c)) = some (l.map tx)
  | [] => rfl
  | c :: l => by
    show (strsOf (l.map fun c => .str (tx c))).map (tx c :: ·) = _
    rw [strs_map l]
    rfl
theorem joinD_jl {l : List (List Nat)} (hl : l.length ≤ 10) (h : ∀ c ∈ l, c.length ≤ 1000) : joinD " " (.list (l.map fun c => .str (tx c))) = some (.val (.str (tx (jl l)))) := by
  show (match strsOf (l.map fun c => .str (tx c)) with
    | none => none
    | some ys => if (ys.map Str.length).sum + ys.length * (" " : Str).length ≤ 16777216 then some (OR.val (.str (Txt.join " " ys))) else none) = _
  rw [strs_map]
  dsimp only
  have e : ((l.map tx).map Str.length).sum ≤ l.length * 1000 := by
    clear hl
    induction l with
    | nil => simp
    | cons c l ih =>
      rw [List.map_cons, List.map_cons, List.sum_cons, tx_len, List.length_cons]
      have := h c List.mem_cons_self
      have := ih fun d hd => h d (List.mem_cons_of_mem _ hd)
      omega
  have z : (" " : Str).length = 1 := by decide +kernel
  rw [if_pos (by rw [z, List.length_map]; omega), join_jl]
def chs : Nat → PyData → List Nat
  | 0 => fun d => match d with
    | .str s => s.cps.toList
    | _ => []
  | k + 1 => fun d => match d with
    | .str s => s.cps.toList
    | .tuple (.str w :: xs) => jl (w.cps.toList :: xs.map (chs k))
    | _ => []
theorem chs_str (k : Nat) (s : Str) : chs k (.str s) = s.cps.toList := by cases k <;> rfl
def TL : Nat → Nat
  | 0 => 8
  | k + 1 => 2 * TL k + 8
theorem TL_ge : ∀ k, 8 ≤ TL k
  | 0 => Nat.le_refl _
  | k + 1 => by have := TL_ge k; show 8 ≤ 2 * TL k + 8; omega
theorem W6_len : ∀ w ∈ W6, w.cps.toList.length ≤ 6 := by decide +kernel
theorem NmS.len {s : Str} (h : NmS s) : s.cps.toList.length ≤ 8 := by
  obtain ⟨l, rfl, _, l8, _⟩ := h.1
  simpa [tx] using l8
theorem chs_len : ∀ (k : Nat) (d : PyData), VT k d → (chs k d).length ≤ TL k
  | 0, d, ⟨s, e, h⟩ => by subst e; exact h.len
  | k + 1, d, h => by
    rcases h with ⟨s, rfl, h⟩ | ⟨w, xs, rfl, hw, hl, hx⟩
    · have := TL_ge (k + 1)
      exact Nat.le_trans h.len this
    · show (jl (w.cps.toList :: xs.map (chs k))).length ≤ 2 * TL k + 8
      have a2 := ar_le w
      have hw6 := W6_len w hw
      match xs, hl, hx with
      | [], hl, _ => rw [List.length_nil] at hl; omega
      | [x], _, hx =>
        have h1 := chs_len k x (hx x List.mem_cons_self)
        show (w.cps.toList ++ 32 :: chs k x).length ≤ _
        rw [List.length_append, List.length_cons]
        omega
      | [x, y], _, hx =>
        have h1 := chs_len k x (hx x List.mem_cons_self)
        have h2 := chs_len k y (hx y (List.mem_cons_of_mem _ List.mem_cons_self))
        show (w.cps.toList ++ 32 :: (chs k x ++ 32 :: chs k y)).length ≤ _
        rw [List.length_append, List.length_cons, List.length_append, List.length_cons]
        omega
      | _ :: _ :: _ :: _, hl, _ => simp only [List.length_cons] at hl; omega
theorem tx_back (s : Str) : PyData.str (tx s.cps.toList) = .str s := by rw [← tx_of]
theorem TL_le {k : Nat} (h : k ≤ 3) : TL k ≤ 1000 := by
  rcases (show k = 0 ∨ k = 1 ∨ k = 2 ∨ k = 3 by omega) with rfl | rfl | rfl | rfl <;> decide
theorem ltext_str (n : Nat) (s : Str) : d_l_text (n + 1) [.val (.str s)] = .rt (.str s) [] := by
  show runD 2 (g_l_text (d_l_text n)) _ = _
  apply runD_rt (st := [])
  show g_l_text (d_l_text n) [.val (.str s), .non] [] = _
  unfold g_l_text
  exact sSeq_rt (sIf_ok (tst_ok (u1_ok (r := .val (.bool true)) rfl rfl (is_str (.str s)))) rfl)
theorem ltext_ok : ∀ (k n : Nat) (d : PyData), k < n → k ≤ 4 → VT k d → d_l_text n [.val d] = .rt (.str (tx (chs k d))) []
  | k, 0, _, h, _, _ => absurd h (by omega)
  | 0, n + 1, d, _, _, ⟨s, e, h⟩ => by
    subst e
    rw [ltext_str, chs_str, tx_back]
  | k + 1, n + 1, d, hk, h4, h => by
    rcases h with ⟨s, rfl, h⟩ | ⟨w, xs, rfl, hw, hl, hx⟩
    · rw [ltext_str, chs_str, tx_back]
    · show runD 2 (g_l_text (d_l_text n)) _ = _
      apply runD_rt (st := [])
      show g_l_text (d_l_text n) [.val (.tuple (.str w :: xs)), .non] [] = _
      unfold g_l_text
      have a2 := (ar_le w).2
      refine sSeq_ok (sIf_ok (tst_ok (u1_ok (r := .val (.bool false)) rfl rfl (is_str (.tuple (.str w :: xs))))) rfl) ?_
      have go := lcGo_map (h := gN 1) (t := tTrue) (f := eCall (d_l_text n) [false] (aCons (eName 1) aNil)) (sl0 := wipeS [.val (.tuple (.str w :: xs)), .non] [1]) (st := []) (fun _ => true) (fun x => .str (tx (chs k x))) xs (by
        intro x m
        exact ⟨_, rfl, rfl, fun _ => ⟨.val (.str (tx (chs k x))), call1_val (a := x) rfl (ltext_ok k n x (by omega) (by omega) (hx x m)), rfl⟩⟩)
      rw [List.filter_eq_self.mpr (fun _ _ => rfl)] at go
      have e : PyData.str w :: xs.map (fun x => PyData.str (tx (chs k x))) = (w.cps.toList :: xs.map (chs k)).map (fun c => .str (tx c)) := by
        rw [List.map_cons, tx_back, List.map_map]
        rfl
      have lc : eLc [1] (iSeq (eCut (eName 0) (oInt (eD (.int 1))) oNone)) (gN 1) tTrue (eCall (d_l_text n) [false] (aCons (eName 1) aNil)) [.val (.tuple (.str w :: xs)), .non] [] = .ok (.new (.lst (xs.map (fun x => PyData.str (tx (chs k x)))))) [] :=
        eLc_ok (ds := xs) (st1 := []) (iSeq_tup (e1 := .val (.tuple xs)) (rest_ev rfl) rfl) go (by rw [List.length_map]; unfold Lim; omega)
      have one : eLst (aCons (u2 ixD (eName 0) (eD (.int 0))) aNil) [.val (.tuple (.str w :: xs)), .non] [] = .ok (.new (.lst [.str w])) [] := eLst_ok (es := [.val (.str w)]) (ds := [.str w]) (st1 := []) (aCons_ok (e1 := .val (.str w)) (es := []) (head_ev rfl) rfl) rfl (by show 1 ≤ Lim; decide)
      have ad : u2 addD (eLst (aCons (u2 ixD (eName 0) (eD (.int 0))) aNil)) (eLc [1] (iSeq (eCut (eName 0) (oInt (eD (.int 1))) oNone)) (gN 1) tTrue (eCall (d_l_text n) [false] (aCons (eName 1) aNil))) [.val (.tuple (.str w :: xs)), .non] [] = .ok (.new (.lst (.str w :: xs.map (fun x => PyData.str (tx (chs k x)))))) [] := by
        refine u2_ok (r := .new (.lst (.str w :: xs.map (fun x => PyData.str (tx (chs k x)))))) one lc rfl rfl ?_
        show (if [PyData.str w].length + (xs.map (fun x => PyData.str (tx (chs k x)))).length ≤ Lim then some (OR.new (.lst ([PyData.str w] ++ xs.map (fun x => PyData.str (tx (chs k x)))))) else none) = _
        rw [if_pos (by rw [List.length_map, List.length_singleton]; unfold Lim; omega)]
        rfl
      rw [e] at ad
      refine sRet_ok (e1 := .val (.str (tx (chs (k + 1) (.tuple (.str w :: xs)))))) (st1 := []) (u1_ok (r := .val (.str (tx (jl (w.cps.toList :: xs.map (chs k)))))) (e1 := .new (.lst ((w.cps.toList :: xs.map (chs k)).map (fun c => .str (tx c))))) ad rfl (joinD_jl (by rw [List.length_cons, List.length_map]; omega) fun c hc => ?_)) rfl
      rcases List.mem_cons.mp hc with e | hc
      · subst e
        have := W6_len w hw
        omega
      · obtain ⟨x, m, rfl⟩ := List.mem_map.mp hc
        exact Nat.le_trans (chs_len k x (hx x m)) (TL_le (by omega))
end G03
namespace G03
open PySem PySem.Spec PyProof.Rows L2 Px
/-! ### one text, one term -/
theorem split32 : ∀ (a b r q : List Nat), 32 ∉ a → 32 ∉ b → a ++ 32 :: r = b ++ 32 :: q → a = b ∧ r = q
  | [], [], r, q, _, _, e => ⟨rfl, (List.cons.inj e).2⟩
  | [], y :: b, r, q, _, hb, e => absurd (List.cons.inj e).1 (fun z => hb (by rw [z]; exact List.mem_cons_self))
  | x :: a, [], r, q, ha, _, e => absurd (List.cons.inj e).1 (fun z => ha (by rw [← z]; exact List.mem_cons_self))
  | x :: a, y :: b, r, q, ha, hb, e => by
    obtain ⟨e1, e2⟩ := List.cons.inj e
    obtain ⟨h1, h2⟩ := split32 a b r q (fun z => ha (List.mem_cons_of_mem _ z)) (fun z => hb (List.mem_cons_of_mem _ z)) e2
    exact ⟨by rw [e1, h1], h2⟩
theorem abc_no : ∀ c ∈ abc, c ≠ 32 ∧ c < 128 := by decide
theorem NmS.chr {s : Str} (h : NmS s) : ∀ c ∈ s.cps.toList, c ≠ 32 ∧ c < 128 := by
  obtain ⟨l, rfl, _, _, ha⟩ := h.1
  intro c hc
  exact abc_no c (ha c (by simpa [tx] using hc))
theorem W6_chr : ∀ w ∈ W6, ∀ c ∈ w.cps.toList, c ≠ 32 ∧ c < 128 := by decide +kernel
theorem str_of {a b : Str} (h : a.cps.toList = b.cps.toList) : a = b := by
  rw [tx_of a, tx_of b, h]
/-- the text of a tuple, by its parts -/
theorem chs_one (k : Nat) (w : Str) (x : PyData) : chs (k + 1) (.tuple [.str w, x]) = w.cps.toList ++ 32 :: chs k x := rfl
theorem chs_two (k : Nat) (w : Str) (x y : PyData) : chs (k + 1) (.tuple [.str w, x, y]) = w.cps.toList ++ 32 :: (chs k x ++ 32 :: chs k y) := rfl
theorem two_shapes {α : Type} {w : Str} {xs : List α} (h : xs.length = ar w) : (ar w = 1 ∧ ∃ x, xs = [x]) ∨ (ar w = 2 ∧ ∃ x y, xs = [x, y]) := by
  have := ar_le w
  match xs, h with
  | [], h => rw [List.length_nil] at h; omega
  | [x], h => exact .inl ⟨h.symm, x, rfl⟩
  | [x, y], h => exact .inr ⟨h.symm, x, y, rfl⟩
  | _ :: _ :: _ :: _, h => simp only [List.length_cons] at h; omega
theorem chs_inj : ∀ (k : Nat) (d e : PyData) (r q : List Nat), VT k d → VT k e → chs k d ++ 32 :: r = chs k e ++ 32 :: q → d = e ∧ r = q
  | 0, d, e, r, q, ⟨s, hd, hs⟩, ⟨t, he, ht⟩, h => by
    subst hd
    subst he
    rw [chs_str, chs_str] at h
    obtain ⟨h1, h2⟩ := split32 _ _ _ _ (fun z => (hs.chr _ z).1 rfl) (fun z => (ht.chr _ z).1 rfl) h
    exact ⟨by rw [str_of h1], h2⟩
  | k + 1, d, e, r, q, hd, he, h => by
    have word : ∀ w ∈ W6, 32 ∉ w.cps.toList := fun w hw z => (W6_chr w hw _ z).1 rfl
    have mixed : ∀ {s w : Str} {u v : List Nat}, NmS s → w ∈ W6 → s.cps.toList ++ 32 :: u = w.cps.toList ++ 32 :: v → False := fun hs hw h => by
      obtain ⟨h1, _⟩ := split32 _ _ _ _ (fun z => (hs.chr _ z).1 rfl) (word _ hw) h
      exact hs.2 (by rw [str_of h1]; exact hw)
    rcases hd with ⟨s, rfl, hs⟩ | ⟨w, xs, rfl, hw, hl, hx⟩
    · rcases he with ⟨t, rfl, ht⟩ | ⟨v, ys, rfl, hv, hk, hy⟩
      · rw [chs_str, chs_str] at h
        obtain ⟨h1, h2⟩ := split32 _ _ _ _ (fun z => (hs.chr _ z).1 rfl) (fun z => (ht.chr _ z).1 rfl) h
        exact ⟨by rw [str_of h1], h2⟩
      · rw [chs_str] at h
        rcases two_shapes hk with ⟨_, y, rfl⟩ | ⟨_, y, z, rfl⟩
        · rw [chs_one, List.append_assoc, List.cons_append] at h
          exact (mixed hs hv h).elim
        · rw [chs_two, List.append_assoc, List.cons_append] at h
          exact (mixed hs hv h).elim
    · rcases he with ⟨t, rfl, ht⟩ | ⟨v, ys, rfl, hv, hk, hy⟩
      · rw [chs_str] at h
        rcases two_shapes hl with ⟨_, y, rfl⟩ | ⟨_, y, z, rfl⟩
        · rw [chs_one, List.append_assoc, List.cons_append] at h
          exact (mixed ht hw h.symm).elim
        · rw [chs_two, List.append_assoc, List.cons_append] at h
          exact (mixed ht hw h.symm).elim
      · rcases two_shapes hl with ⟨n, x, rfl⟩ | ⟨n, x, y, rfl⟩
        · rcases two_shapes hk with ⟨m, x', rfl⟩ | ⟨m, x', y', rfl⟩
          · rw [chs_one, chs_one, List.append_assoc, List.append_assoc, List.cons_append, List.cons_append] at h
            obtain ⟨h1, h2⟩ := split32 _ _ _ _ (word _ hw) (word _ hv) h
            obtain ⟨h3, h4⟩ := chs_inj k x x' r q (hx x List.mem_cons_self) (hy x' List.mem_cons_self) h2
            exact ⟨by rw [str_of h1, h3], h4⟩
          · rw [chs_one, chs_two, List.append_assoc, List.append_assoc, List.cons_append, List.cons_append] at h
            obtain ⟨h1, _⟩ := split32 _ _ _ _ (word _ hw) (word _ hv) h
            rw [str_of h1] at n
            omega
        · rcases two_shapes hk with ⟨m, x', rfl⟩ | ⟨m, x', y', rfl⟩
          · rw [chs_one, chs_two, List.append_assoc, List.append_assoc, List.cons_append, List.cons_append] at h
            obtain ⟨h1, _⟩ := split32 _ _ _ _ (word _ hw) (word _ hv) h
            rw [str_of h1] at n
            omega
          · rw [chs_two, chs_two, List.append_assoc, List.append_assoc, List.cons_append, List.cons_append, List.append_assoc, List.append_assoc, List.cons_append, List.cons_append] at h
            obtain ⟨h1, h2⟩ := split32 _ _ _ _ (word _ hw) (word _ hv) h
            obtain ⟨h3, h4⟩ := chs_inj k x x' _ _ (hx x List.mem_cons_self) (hy x' List.mem_cons_self) h2
            obtain ⟨h5, h6⟩ := chs_inj k y y' r q (hx y (List.mem_cons_of_mem _ List.mem_cons_self)) (hy y' (List.mem_cons_of_mem _ List.mem_cons_self)) h4
            exact ⟨by rw [str_of h1, h3, h5], h6⟩
theorem chs_low : ∀ (k : Nat) (d : PyData), VT k d → ∀ c ∈ chs k d, c < 128
  | 0, d, ⟨s, e, h⟩ => by
    subst e
    rw [chs_str]
    exact fun c hc => (h.chr c hc).2
  | k + 1, d, h => by
    rcases h with ⟨s, rfl, h⟩ | ⟨w, xs, rfl, hw, hl, hx⟩
    · rw [chs_str]
      exact fun c hc => (h.chr c hc).2
    · have hw' := fun c hc => (W6_chr w hw c hc).2
      rcases two_shapes hl with ⟨_, x, rfl⟩ | ⟨_, x, y, rfl⟩
      · have h1 := chs_low k x (hx x List.mem_cons_self)
        rw [chs_one]
        intro c hc
        simp only [List.mem_append, List.mem_cons] at hc
        rcases hc with hc | hc | hc
        · exact hw' c hc
        · omega
        · exact h1 c hc
      · have h1 := chs_low k x (hx x List.mem_cons_self)
        have h2 := chs_low k y (hx y (List.mem_cons_of_mem _ List.mem_cons_self))
        rw [chs_two]
        intro c hc
        simp only [List.mem_append, List.mem_cons] at hc
        rcases hc with hc | hc | hc | hc | hc
        · exact hw' c hc
        · omega
        · exact h1 c hc
        · omega
        · exact h2 c hc
/-- its text -/
def T3 (d : PyData) : Str := tx (chs 3 d)
theorem T3_inj {d e : PyData} (hd : VT 3 d) (he : VT 3 e) (h : T3 d = T3 e) : d = e := by
  have h' : chs 3 d = chs 3 e := tx_inj h
  exact (chs_inj 3 d e [] [] hd he (by rw [h'])).1
theorem T3_ok {d : PyData} (hd : VT 3 d) : PyData.strOk (T3 d) = true := by
  rw [strOk_iff]
  intro c hc
  have := chs_low 3 d hd c (by simpa [T3, tx] using hc)
  omega
/-! ### its parts -/
def pts : Nat → PyData → List PyData
  | 0 => fun d => [d]
  | k + 1 => fun d => match d with
    | .tuple (w :: xs) => .tuple (w :: xs) :: (xs.map (pts k)).flatten
    | d => [d]
theorem pts_str (k : Nat) (s : Str) : pts k (.str s) = [.str s] := by cases k <;> rfl
def PL : Nat → Nat
  | 0 => 1
  | k + 1 => 2 * PL k + 1
theorem PL_ge : ∀ k, 1 ≤ PL k
  | 0 => Nat.le_refl _
  | k + 1 => by show 1 ≤ 2 * PL k + 1; omega
theorem pts_len : ∀ (k : Nat) (d : PyData), VT k d → 1 ≤ (pts k d).length ∧ (pts k d).length ≤ PL k
  | 0, d, _ => ⟨Nat.le_refl _, Nat.le_refl _⟩
  | k + 1, d, h => by
    rcases h with ⟨s, rfl, h⟩ | ⟨w, xs, rfl, hw, hl, hx⟩
    · rw [pts_str]
      exact ⟨Nat.le_refl _, PL_ge (k + 1)⟩
    · show 1 ≤ (PyData.tuple (.str w :: xs) :: (xs.map (pts k)).flatten).length ∧ (PyData.tuple (.str w :: xs) :: (xs.map (pts k)).flatten).length ≤ 2 * PL k + 1
      have g := PL_ge k
      rcases two_shapes hl with ⟨_, x, rfl⟩ | ⟨_, x, y, rfl⟩
      · have h1 := pts_len k x (hx x List.mem_cons_self)
        simp only [List.map_cons, List.map_nil, List.flatten_cons, List.flatten_nil, List.append_nil, List.length_cons]
        omega
      · have h1 := pts_len k x (hx x List.mem_cons_self)
        have h2 := pts_len k y (hx y (List.mem_cons_of_mem _ List.mem_cons_self))
        simp only [List.map_cons, List.map_nil, List.flatten_cons, List.flatten_nil, List.append_nil, List.length_cons, List.length_append]
        omega
theorem pts_vt : ∀ (k : Nat) (d : PyData), VT k d → ∀ e ∈ pts k d, VT k e
  | 0, d, h => fun e he => by rw [List.mem_singleton.mp he]; exact h
  | k + 1, d, h => by
    have h0 := h
    rcases h with ⟨s, rfl, h⟩ | ⟨w, xs, rfl, hw, hl, hx⟩
    · rw [pts_str]
      exact fun e he => by rw [List.mem_singleton.mp he]; exact h0
    · intro e he
      rcases List.mem_cons.mp (show e ∈ PyData.tuple (.str w :: xs) :: (xs.map (pts k)).flatten from he) with q | q
      · rw [q]; exact h0
      · obtain ⟨l, hl', he'⟩ := List.mem_flatten.mp q
        obtain ⟨x, m, rfl⟩ := List.mem_map.mp hl'
        exact VT.mono (by omega) (pts_vt k x (hx x m) e he')
/-! ### a dict of terms by their texts -/
def dm (E : List PyData) : List (PyData × PyData) := E.map fun e => (.str (T3 e), e)
def addE (E : List PyData) (p : PyData) : List PyData := if T3 p ∈ E.map T3 then E else E ++ [p]
structure Ew (E : List PyData) : Prop where
  nodup : (E.map T3).Nodup
  each : ∀ e ∈ E, VT 3 e
theorem Ew.nil : Ew [] := ⟨List.nodup_nil, fun _ h => nomatch h⟩
theorem mem_T3 {E : List PyData} {p : PyData} (h : Ew E) (hp : VT 3 p) : T3 p ∈ E.map T3 ↔ p ∈ E := by
  refine ⟨fun m => ?_, List.mem_map_of_mem⟩
  obtain ⟨e, he, q⟩ := List.mem_map.mp m
  rw [← T3_inj (h.each e he) hp q]
  exact he
theorem Ew.add {E : List PyData} {p : PyData} (h : Ew E) (hp : VT 3 p) : Ew (addE E p) ∧ ∀ x, x ∈ addE E p ↔ x ∈ E ∨ x = p := by
  unfold addE
  by_cases m : T3 p ∈ E.map T3
  · rw [if_pos m]
    exact ⟨h, fun x => ⟨.inl, fun z => z.elim id fun e => by rw [e]; exact (mem_T3 h hp).mp m⟩⟩
  · rw [if_neg m]
    refine ⟨⟨?_, fun e he => ?_⟩, fun x => by rw [List.mem_append, List.mem_singleton]⟩
    · rw [List.map_append, List.nodup_append]
      exact ⟨h.nodup, by simp, fun a ha b hb e => m (by rw [List.map_cons, List.map_nil, List.mem_singleton] at hb; rw [← hb, ← e]; exact ha)⟩
    · rcases List.mem_append.mp he with q | q
      · exact h.each e q
      · rw [List.mem_singleton.mp q]; exact hp
theorem has_dm (t : Str) (E : List PyData) : hasD (.inr t) (dm E) = decide (t ∈ E.map T3) := by
  unfold hasD dm
  induction E with
  | nil => rfl
  | cons p r ih =>
    rw [List.map_cons, List.any_cons, ih]
    show (decide (some (Sum.inr (T3 p)) = some (Sum.inr t : Key)) || decide (t ∈ r.map T3)) = _
    by_cases e : T3 p = t
    · subst e
      rw [decide_eq_true rfl, Bool.true_or, decide_eq_true (by rw [List.map_cons]; exact List.mem_cons_self)]
    · rw [decide_eq_false (fun z => e (Sum.inr.inj (Option.some.inj z))), Bool.false_or]
      exact decide_eq_decide.mpr (by rw [List.map_cons, List.mem_cons]; exact ⟨.inr, fun z => z.elim (fun q => absurd q.symm e) id⟩)
theorem rep_dm {p : PyData} : ∀ {E : List PyData}, (∀ e ∈ E, T3 e = T3 p → e = p) → repD (.inr (T3 p)) p (dm E) = dm E
  | [], _ => rfl
  | e :: E, h => by
    show (if (some (Sum.inr (T3 e)) : Option Key) = some (.inr (T3 p)) then (PyData.str (T3 e), p) else (PyData.str (T3 e), e)) :: repD (.inr (T3 p)) p (dm E) = (PyData.str (T3 e), e) :: dm E
    rw [rep_dm fun x hx => h x (List.mem_cons_of_mem _ hx)]
    by_cases q : T3 e = T3 p
    · rw [if_pos (by rw [q]), h e List.mem_cons_self q]
    · rw [if_neg (fun z => q (Sum.inr.inj (Option.some.inj z)))]
theorem put_dm {E : List PyData} {p : PyData} (h : Ew E) (hp : VT 3 p) : putD (.inr (T3 p)) p (dm E) = dm (addE E p) := by
  unfold putD addE
  rw [has_dm]
  by_cases m : T3 p ∈ E.map T3
  · rw [decide_eq_true m, if_pos rfl, if_pos m]
    exact rep_dm fun e he q => T3_inj (h.each e he) hp q
  · rw [decide_eq_false m, if_neg Bool.false_ne_true, if_neg m]
    unfold dm
    rw [List.map_append]
    rfl
theorem val_dm {e : PyData} : ∀ {E : List PyData}, Ew E → e ∈ E → valD (.inr (T3 e)) (dm E) = some e
  | [], _, m => nomatch m
  | x :: E, h, m => by
    show (if (some (Sum.inr (T3 x)) : Option Key) = some (.inr (T3 e)) then some x else valD (.inr (T3 e)) (dm E)) = _
    have he : VT 3 e := h.each e m
    by_cases q : T3 x = T3 e
    · rw [if_pos (by rw [q]), T3_inj (h.each x List.mem_cons_self) he q]
    · rw [if_neg (fun z => q (Sum.inr.inj (Option.some.inj z)))]
      refine val_dm ⟨(List.nodup_cons.mp (by simpa using h.nodup)).2, fun y hy => h.each y (List.mem_cons_of_mem _ hy)⟩ ?_
      rcases List.mem_cons.mp m with z | z
      · rw [z] at q; exact absurd rfl q
      · exact z
theorem keys_dm : ∀ E : List PyData, keysL (dm E) = some (E.map T3)
  | [] => rfl
  | e :: E => by
    show (match keysL (dm E) with
      | some l => some (T3 e :: l)
      | none => none) = _
    rw [keys_dm E]
    rfl
/-- what is told of such a dict: its terms by their texts -/
def outE (E : List PyData) : List PyData := (sortS (E.map T3)).map fun t => (valD (.inr t) (dm E)).getD .none
theorem perm_of {α : Type} [DecidableEq α] : ∀ {a b : List α}, a.Nodup → b.Nodup → (∀ x, x ∈ a ↔ x ∈ b) → a.Perm b
  | [], b, _, _, h => by
    cases b with
    | nil => exact .nil
    | cons y b => exact absurd ((h y).mpr List.mem_cons_self) (by simp)
  | x :: a, b, ha, hb, h => by
    have hx : x ∈ b := (h x).mp List.mem_cons_self
    have p := List.perm_cons_erase hx
    refine (List.Perm.cons x (perm_of (List.nodup_cons.mp ha).2 (hb.erase x) fun y => ?_)).trans p.symm
    rw [List.Nodup.mem_erase_iff hb]
    constructor
    · intro hy
      exact ⟨fun e => (List.nodup_cons.mp ha).1 (by rw [← e]; exact hy), (h y).mp (List.mem_cons_of_mem _ hy)⟩
    · rintro ⟨n, hy⟩
      rcases List.mem_cons.mp ((h y).mpr hy) with e | e
      · exact absurd e n
      · exact e
theorem out_same {E F : List PyData} (hE : Ew E) (hF : Ew F) (h : ∀ x, x ∈ E ↔ x ∈ F) : outE E = outE F := by
  have p : (E.map T3).Perm (F.map T3) := perm_of hE.nodup hF.nodup fun t => by
    constructor
    · intro m
      obtain ⟨e, he, rfl⟩ := List.mem_map.mp m
      exact List.mem_map_of_mem ((h e).mp he)
    · intro m
      obtain ⟨e, he, rfl⟩ := List.mem_map.mp m
      exact List.mem_map_of_mem ((h e).mpr he)
  have s : sortS (E.map T3) = sortS (F.map T3) := perm_one (((sortS_perm _).trans p).trans (sortS_perm _).symm) (sortS_pair _) (sortS_pair _)
  unfold outE
  rw [← s]
  refine List.map_congr_left fun t ht => ?_
  have m : t ∈ E.map T3 := (sortS_perm _).mem_iff.mp ht
  obtain ⟨e, he, rfl⟩ := List.mem_map.mp m
  rw [val_dm hE he, val_dm hF ((h e).mp he)]
end G03
namespace G03
open PySem PySem.Spec PyProof.Rows L2 Px
/-! ### the law's list of parts -/
theorem ext_loop {D : FD} {t : PyData} {P : PyData → List PyData} : ∀ (xs acc : List PyData) (p : Sl), (∀ x ∈ xs, D [.val x] = .rt (.list (P x)) []) → acc.length + ((xs.map P).flatten).length ≤ 1000 →
    ∃ p', sFor (gN 2) (sExpr (eExt (eName 1) (eCall D [false] (aCons (eName 2) aNil)))) xs [.val t, .ref 0, p] [.live (.lst acc)] = .nx [.val t, .ref 0, p'] [.live (.lst (acc ++ (xs.map P).flatten))]
  | [], acc, p, _, _ => ⟨p, by simp only [List.map_nil, List.flatten_nil, List.append_nil]; rfl⟩
  | x :: xs, acc, p, h, hl => by
    simp only [List.map_cons, List.flatten_cons, List.length_append] at hl
    obtain ⟨p', e⟩ := ext_loop xs (acc ++ P x) (.val x) (fun y hy => h y (List.mem_cons_of_mem _ hy)) (by rw [List.length_append]; omega)
    refine ⟨p', ?_⟩
    have c : eCall D [false] (aCons (eName 2) aNil) [.val t, .ref 0, .val x] [.live (.lst acc)] = .ok (.val (.list (P x))) [.live (.lst acc)] := call1_val (a := x) rfl (h x List.mem_cons_self)
    have b : sExpr (eExt (eName 1) (eCall D [false] (aCons (eName 2) aNil))) [.val t, .ref 0, .val x] [.live (.lst acc)] = .nx [.val t, .ref 0, .val x] [.live (.lst (acc ++ P x))] := by
      refine sExpr_ok (e1 := .val .none) ?_
      unfold eExt
      show (if lstAt [.live (.lst acc)] 0 = none then Re.fail else match eCall D [false] (aCons (eName 2) aNil) [.val t, .ref 0, .val x] [.live (.lst acc)] with
        | .fail => .fail
        | .exc x st2 => .exc x st2
        | .ok (.val (.tuple ds)) st2 => match lstAt st2 0 with
          | none => .fail
          | some xs => if xs.length + ds.length ≤ Lim then .ok (.val .none) (putAt st2 0 (.lst (xs ++ ds))) else .fail
        | .ok (.val (.list ds)) st2 => match lstAt st2 0 with
          | none => .fail
          | some xs => if xs.length + ds.length ≤ Lim then .ok (.val .none) (putAt st2 0 (.lst (xs ++ ds))) else .fail
        | .ok (.new (.lst ds)) st2 => match lstAt st2 0 with
          | none => .fail
          | some xs => if xs.length + ds.length ≤ Lim then .ok (.val .none) (putAt st2 0 (.lst (xs ++ ds))) else .fail
        | _ => .fail : Re EV) = _
      rw [if_neg (by intro z; cases z), c]
      show (if acc.length + (P x).length ≤ Lim then Re.ok (EV.val .none) [.live (.lst (acc ++ P x))] else .fail) = _
      rw [if_pos (by unfold Lim; omega)]
    unfold sFor
    show (match sExpr (eExt (eName 1) (eCall D [false] (aCons (eName 2) aNil))) [.val t, .ref 0, .val x] [.live (.lst acc)] with
      | .nx sl2 st2 => sFor (gN 2) (sExpr (eExt (eName 1) (eCall D [false] (aCons (eName 2) aNil)))) xs sl2 st2
      | .ct sl2 st2 => sFor (gN 2) (sExpr (eExt (eName 1) (eCall D [false] (aCons (eName 2) aNil)))) xs sl2 st2
      | .bk sl2 st2 => .nx sl2 st2
      | .rt d st2 => .rt d st2
      | .rn d st2 => .rn d st2
      | .exc x sl2 st2 => .exc x sl2 st2
      | .fail => .fail : RS) = _
    rw [b]
    dsimp only
    rw [e, List.map_cons, List.flatten_cons, List.append_assoc]
theorem PL_le {k : Nat} (h : k ≤ 3) : PL k ≤ 15 := by
  rcases (show k = 0 ∨ k = 1 ∨ k = 2 ∨ k = 3 by omega) with rfl | rfl | rfl | rfl <;> decide
theorem l_parts_ok : ∀ (k n : Nat) (d : PyData), k < n → k ≤ 3 → VT k d → d_l_parts n [.val d] = .rt (.list (pts k d)) []
  | k, 0, _, h, _, _ => absurd h (by omega)
  | k, n + 1, d, hk, h3, h => by
    show runD 3 (g_l_parts (d_l_parts n)) _ = _
    have one : ∀ s : Str, sRet (eLst (aCons (eName 0) aNil)) [.val (.str s), .non, .non] [] = .rt (.list [.str s]) [] := fun s => rfl
    have str : ∀ s : Str, d = .str s → _ := fun s e => e
    by_cases hs : ∃ s, d = .str s
    · obtain ⟨s, rfl⟩ := hs
      rw [pts_str]
      apply runD_rt (st := [])
      show g_l_parts (d_l_parts n) [.val (.str s), .non, .non] [] = _
      unfold g_l_parts
      exact sSeq_rt (sIf_ok (tst_ok (u1_ok (r := .val (.bool true)) rfl rfl (is_str (.str s)))) (bif_t rfl (one s)))
    · cases k with
      | zero =>
        obtain ⟨s, e, _⟩ := h
        exact absurd ⟨s, e⟩ hs
      | succ k =>
        rcases h with ⟨s, e, _⟩ | ⟨w, xs, rfl, hw, hl, hx⟩
        · exact absurd ⟨s, e⟩ hs
        · apply runD_rt (st := [.fz (.list (pts (k + 1) (.tuple (.str w :: xs))))])
          show g_l_parts (d_l_parts n) [.val (.tuple (.str w :: xs)), .non, .non] [] = _
          unfold g_l_parts
          refine sSeq_ok (sIf_ok (tst_ok (u1_ok (r := .val (.bool false)) rfl rfl (is_str (.tuple (.str w :: xs))))) rfl) ?_
          have a2 := (ar_le w).2
          have fl : ((xs.map (pts k)).flatten).length ≤ 40 := by
            have pl := PL_le (k := k) (by omega)
            rcases two_shapes hl with ⟨_, x, rfl⟩ | ⟨_, x, y, rfl⟩
            · have h1 := pts_len k x (hx x List.mem_cons_self)
              simp only [List.map_cons, List.map_nil, List.flatten_cons, List.flatten_nil, List.append_nil]
              omega
            · have h1 := pts_len k x (hx x List.mem_cons_self)
              have h2 := pts_len k y (hx y (List.mem_cons_of_mem _ List.mem_cons_self))
              simp only [List.map_cons, List.map_nil, List.flatten_cons, List.flatten_nil, List.append_nil, List.length_append]
              omega
          obtain ⟨p', e⟩ := ext_loop (D := d_l_parts n) (t := .tuple (.str w :: xs)) (P := pts k) xs [.tuple (.str w :: xs)] .non (fun x hx' => l_parts_ok k n x (by omega) (by omega) (hx x hx')) (by rw [List.length_singleton]; omega)
          refine sSeq_ok (sl1 := [.val (.tuple (.str w :: xs)), .ref 0, .non]) (st1 := [.live (.lst [.tuple (.str w :: xs)])]) rfl ?_
          refine sSeq_ok (sForI_ok (iSeq_tup (e1 := .val (.tuple xs)) (rest_ev rfl) rfl) e) ?_
          rfl
/-! ### told at last -/
theorem fin_ok {sl : Sls} {st : Sto} {E : List PyData} {v : Nat} (h1 : sl[1]? = some (.ref 0)) (hs : st[0]? = some (.live (.dic (dm E)))) (hv : 1 < v) (hv2 : v < sl.length) (hE : Ew E) (h64 : E.length < 64) :
    un tupleD (aCons (eLc [v] (iSeq (un sortedDD (aCons (eName 1) aNil))) (gN v) tTrue (u2 keyD2 (eName 1) (eName v))) aNil) sl st = .ok (.val (.tuple (outE E))) st := by
  have n1 : eName 1 sl st = .ok (.bor 0) st := by unfold eName; rw [h1]
  have d1 : (EV.bor 0).dat st = some (.dict (dm E)) := by
    show st[0]?.bind Cell.dat = _
    rw [hs]
    rfl
  have ok : (E.map T3).all PyData.strOk = true := by
    rw [List.all_eq_true]
    intro t ht
    obtain ⟨e, he, rfl⟩ := List.mem_map.mp ht
    exact T3_ok (hE.each e he)
  have so : un sortedDD (aCons (eName 1) aNil) sl st = .ok (.new (.lst ((sortS (E.map T3)).map .str))) st := by
    refine un_ok (r := .new (.lst ((sortS (E.map T3)).map .str))) (es := [.bor 0]) (ds := [.dict (dm E)]) (aCons_ok (e1 := .bor 0) (es := []) n1 rfl) ?_ ?_
    · show (match (EV.bor 0).dat st, some ([] : List PyData) with
        | some d, some ds => some (d :: ds)
        | _, _ => none) = _
      rw [d1]
    · show (match keysL (dm E) with
        | some l => if l.length < 64 ∧ (l.all PyData.strOk) = true then some (OR.new (.lst ((sortS l).map .str))) else none
        | none => none) = _
      rw [keys_dm]
      dsimp only
      rw [if_pos ⟨by rw [List.length_map]; exact h64, ok⟩]
  have lenS : (sortS (E.map T3)).length = E.length := by rw [(sortS_perm _).length_eq, List.length_map]
  have go := lcGo_map (h := gN v) (t := tTrue) (f := u2 keyD2 (eName 1) (eName v)) (sl0 := wipeS sl [v]) (st := st) (fun _ => true) (fun x => match x with | .str t => (valD (.inr t) (dm E)).getD .none | x => x) ((sortS (E.map T3)).map .str) (by
    intro x hx
    obtain ⟨t, ht, rfl⟩ := List.mem_map.mp hx
    refine ⟨_, rfl, rfl, fun _ => ⟨.val ((valD (.inr t) (dm E)).getD .none), ?_, rfl⟩⟩
    have g1 : ((wipeS sl [v]).set v (.val (.str t)))[1]? = some (.ref 0) := by
      show ((sl.set v .non).set v (.val (.str t)))[1]? = _
      rw [List.getElem?_set_ne (by omega), List.getElem?_set_ne (by omega), h1]
    have gv : ((wipeS sl [v]).set v (.val (.str t)))[v]? = some (.val (.str t)) := by
      show ((sl.set v .non).set v (.val (.str t)))[v]? = _
      rw [List.getElem?_set_self (by rw [List.length_set]; exact hv2)]
    obtain ⟨e, he, rfl⟩ := List.mem_map.mp ((sortS_perm _).mem_iff.mp ht)
    have vd := val_dm hE he
    refine u2_ok (r := .val ((valD (.inr (T3 e)) (dm E)).getD .none)) (e1 := .bor 0) (e2 := .val (.str (T3 e))) (st1 := st) (by unfold eName; rw [g1]) (by unfold eName; rw [gv]) d1 rfl ?_
    show (valD (.inr (T3 e)) (dm E)).map OR.val = _
    rw [vd]
    rfl)
  rw [List.filter_eq_self.mpr (fun _ _ => rfl), List.map_map] at go
  have lc : eLc [v] (iSeq (un sortedDD (aCons (eName 1) aNil))) (gN v) tTrue (u2 keyD2 (eName 1) (eName v)) sl st = .ok (.new (.lst (outE E))) st :=
    eLc_ok (ds := (sortS (E.map T3)).map .str) (st1 := st) (iSeq_list (e1 := .new (.lst ((sortS (E.map T3)).map .str))) so rfl) go (by unfold outE; rw [List.length_map, lenS]; unfold Lim; omega)
  exact un_ok (r := .val (.tuple (outE E))) (es := [.val (.list (outE E))]) (ds := [.list (outE E)]) (aCons_ok (e1 := .new (.lst (outE E))) (es := []) lc rfl) rfl rfl
theorem key_ev {fk : FE} {sl : Sls} {E : List PyData} {p : PyData} {rest : Sto} {i : Nat} (hi : sl[i]? = some (.val p)) (h1 : sl[1]? = some (.ref 0)) (hk : fk sl (.live (.dic (dm E)) :: rest) = .ok (.val (.str (T3 p))) (.live (.dic (dm E)) :: rest)) (hE : Ew E) (hp : VT 3 p) (hl : E.length ≤ 1000) :
    sSetKey (eName i) (eName 1) fk sl (.live (.dic (dm E)) :: rest) = .nx sl (.live (.dic (dm (addE E p))) :: rest) := by
  have ni : eName i sl (.live (.dic (dm E)) :: rest) = .ok (.val p) (.live (.dic (dm E)) :: rest) := by unfold eName; rw [hi]
  have n1 : eName 1 sl (.live (.dic (dm E)) :: rest) = .ok (.bor 0) (.live (.dic (dm E)) :: rest) := by unfold eName; rw [h1]
  unfold sSetKey
  rw [ni]
  show (match eName 1 sl (.live (.dic (dm E)) :: rest) with
      | .ok (.bor n) st3 => match fk sl st3 with
        | .ok (.val (.str k)) st4 => match dicAt st4 n with
          | none => .fail
          | some kvs => if kvs.length < Lim then .nx sl (putAt st4 n (.dic (putD (.inr k) p kvs))) else .fail
        | _ => .fail
      | _ => .fail : RS) = _
  rw [n1]
  dsimp only
  rw [hk]
  show (if (dm E).length < Lim then RS.nx sl (.live (.dic (putD (.inr (T3 p)) p (dm E))) :: rest) else .fail) = _
  rw [if_pos (by unfold dm; rw [List.length_map]; unfold Lim; omega), put_dm hE hp]
theorem addE_len (E : List PyData) (p : PyData) : (addE E p).length ≤ E.length + 1 := by
  unfold addE
  split
  · omega
  · rw [List.length_append]; exact Nat.le_refl _
end G03
namespace G03
open PySem PySem.Spec PyProof.Rows L2 Px
theorem pts_up : ∀ (k : Nat) (d : PyData), VT k d → pts (k + 1) d = pts k d
  | 0, d, ⟨s, e, h⟩ => by subst e; rfl
  | k + 1, d, h => by
    rcases h with ⟨s, rfl, h⟩ | ⟨w, xs, rfl, hw, hl, hx⟩
    · rfl
    · show PyData.tuple (.str w :: xs) :: (xs.map (pts (k + 1))).flatten = PyData.tuple (.str w :: xs) :: (xs.map (pts k)).flatten
      rw [List.map_congr_left fun x m => pts_up k x (hx x m)]
theorem pts_tup {w : Str} {xs : List PyData} (h : VT 3 (.tuple (.str w :: xs))) : pts 3 (.tuple (.str w :: xs)) = .tuple (.str w :: xs) :: (xs.map (pts 3)).flatten ∧ (∀ x ∈ xs, VT 3 x) ∧ xs.length ≤ 2 := by
  rcases h with ⟨s, e, _⟩ | ⟨v, ys, e, hw, hl, hx⟩
  · cases e
  · cases e
    refine ⟨?_, fun x m => VT.mono (k := 2) (j := 3) (by omega) (hx x m), by rw [hl]; exact (ar_le _).2⟩
    show PyData.tuple (.str w :: xs) :: (xs.map (pts 2)).flatten = _
    rw [List.map_congr_left fun x m => (pts_up 2 x (hx x m)).symm]
end G03
namespace G03
open PySem PySem.Spec PyProof.Rows L2 Px
/-! ### any term -/
abbrev tsl (nt : PyData) (dp t p : Sl) (s5 s6 s7 s8 s9 s10 s11 s12 : Sl) : Sls := [.ref 0, .val nt, dp, t, p, s5, s6, s7, s8, s9, s10, s11, s12]
theorem cut_last {α : Type} (N : List α) (t : α) : cutL (N ++ [t]) none (some (-1)) = N := by
  unfold cutL
  have e : HT.sIx (N ++ [t]).length (N ++ [t]).length (some (-1)) = N.length := by
    show (HT.sIx (N ++ [t]).length (N ++ [t]).length (some (-1)) : Nat) = _
    unfold HT.sIx
    simp
    omega
  have z : HT.sIx (N ++ [t]).length 0 none = 0 := rfl
  rw [e, z, List.drop_zero, Nat.sub_zero, List.take_left]
section
variable {ps : List (Str × Int)} (hn : Nt ps)
include hn
theorem mates_ok {i : Nat} {t : PyData} {p : Int} {dp s5 s6 s7 s8 s9 s10 s11 s12 : Sl} {o : MO} (ht : VT i t) (hi : asStr t = false → 1 ≤ i) :
    ∃ M : List PyData, sSeq (sSet false 5 (u2 addD (eLc [11, 12] (iSeq (eName 1)) (gT 2 (gCons' (gN 11) (gCons' (gN 12) gNil'))) (t2 eqE (eName 12) (eName 4)) (eName 11)) (eLst (aCons (eName 3) aNil))))
      (sIf (tNotF (tst (u1 (isD "str") (eName 3))))
    (sSet false 5 (u2 addD (eName 5) (eLc [6] (iSeq (eCut (eName 5) oNone (oInt (u1 negD (eD (.int 1)))))) (gN 6) tTrue (eTup (aCons (eD (.str "not")) (aCons (eName 6) aNil))))))
    sNext) (tsl (nt ps) dp (.val t) (.val (.int p)) s5 s6 s7 s8 s9 s10 s11 s12) [.io o] = .nx (tsl (nt ps) dp (.val t) (.val (.int p)) (.val (.list M)) s6 s7 s8 s9 s10 s11 s12) [.io o] ∧ 1 ≤ M.length ∧ M.length ≤ 7 ∧ ∀ x ∈ M, VT i x := by
  have go := lcGo_map (h := gT 2 (gCons' (gN 11) (gCons' (gN 12) gNil'))) (t := t2 eqE (eName 12) (eName 4)) (f := eName 11) (sl0 := wipeS (tsl (nt ps) dp (.val t) (.val (.int p)) s5 s6 s7 s8 s9 s10 s11 s12) [11, 12]) (st := [.io o])
    (fun d => match d with | .tuple [_, .int k] => k == p | _ => false) (fun d => .str (nmOf d)) (ps.map nd) (by
      intro d hd
      obtain ⟨q, _, rfl⟩ := List.mem_map.mp hd
      exact ⟨_, rfl, t2_ok rfl rfl rfl rfl rfl, fun _ => ⟨.val (.str q.1), rfl, rfl⟩⟩)
  let N : List PyData := ((ps.map nd).filter (fun d => match d with | .tuple [_, .int k] => k == p | _ => false)).map (fun d => .str (nmOf d))
  have h3 := hn.three
  have lN : N.length ≤ 3 := by
    show (((ps.map nd).filter _).map _).length ≤ 3
    rw [List.length_map]
    exact Nat.le_trans (List.length_filter_le _ _) (by rw [List.length_map]; exact h3)
  have vN : ∀ x ∈ N, ∃ s, x = .str s ∧ NmS s := by
    intro x hx
    obtain ⟨d, hd, rfl⟩ := List.mem_map.mp hx
    obtain ⟨q, hq, rfl⟩ := List.mem_map.mp (List.mem_filter.mp hd).1
    exact ⟨q.1, rfl, (hn.each q hq).1, hn.noword (List.mem_map_of_mem hq)⟩
  have lc : eLc [11, 12] (iSeq (eName 1)) (gT 2 (gCons' (gN 11) (gCons' (gN 12) gNil'))) (t2 eqE (eName 12) (eName 4)) (eName 11) (tsl (nt ps) dp (.val t) (.val (.int p)) s5 s6 s7 s8 s9 s10 s11 s12) [.io o] = .ok (.new (.lst N)) [.io o] :=
    eLc_ok (ds := ps.map nd) (st1 := [.io o]) (iSeq_tup (e1 := .val (nt ps)) rfl rfl) go (by show N.length ≤ Lim; unfold Lim; omega)
  clear_value N
  have l1 : eLst (aCons (eName 3) aNil) (tsl (nt ps) dp (.val t) (.val (.int p)) s5 s6 s7 s8 s9 s10 s11 s12) [.io o] = .ok (.new (.lst [t])) [.io o] := eLst_ok (es := [.val t]) (ds := [t]) (st1 := [.io o]) rfl rfl (by show 1 ≤ Lim; decide)
  have a1 : u2 addD (eLc [11, 12] (iSeq (eName 1)) (gT 2 (gCons' (gN 11) (gCons' (gN 12) gNil'))) (t2 eqE (eName 12) (eName 4)) (eName 11)) (eLst (aCons (eName 3) aNil)) (tsl (nt ps) dp (.val t) (.val (.int p)) s5 s6 s7 s8 s9 s10 s11 s12) [.io o] = .ok (.new (.lst (N ++ [t]))) [.io o] := by
    refine u2_ok (r := .new (.lst (N ++ [t]))) lc l1 rfl rfl ?_
    show (if N.length + [t].length ≤ Lim then some (OR.new (.lst (N ++ [t]))) else none) = _
    rw [if_pos (by rw [List.length_singleton]; unfold Lim; omega)]
  have ts : tNotF (tst (u1 (isD "str") (eName 3))) (tsl (nt ps) dp (.val t) (.val (.int p)) (.val (.list (N ++ [t]))) s6 s7 s8 s9 s10 s11 s12) [.io o] = .ok (!asStr t) [.io o] := tNotF_ok (tst_ok (u1_ok (r := .val (.bool (asStr t))) rfl rfl (is_str t)))
  have v1 : ∀ x ∈ N ++ [t], VT i x := fun x hx => by
    rcases List.mem_append.mp hx with q | q
    · obtain ⟨s, rfl, hs⟩ := vN x q
      exact VT.nm hs i
    · rw [List.mem_singleton.mp q]; exact ht
  cases hs : asStr t with
  | true =>
    rw [hs] at ts
    exact ⟨N ++ [t], sSeq_ok (sSet_ok a1 rfl) (sIf_ok ts rfl), by rw [List.length_append, List.length_singleton]; omega, by rw [List.length_append, List.length_singleton]; omega, v1⟩
  | false =>
    rw [hs] at ts
    have i1 := hi hs
    obtain ⟨i, rfl⟩ : ∃ j, i = j + 1 := ⟨i - 1, by omega⟩
    have go2 := lcGo_map (h := gN 6) (t := tTrue) (f := eTup (aCons (eD (.str "not")) (aCons (eName 6) aNil))) (sl0 := wipeS (tsl (nt ps) dp (.val t) (.val (.int p)) (.val (.list (N ++ [t]))) s6 s7 s8 s9 s10 s11 s12) [6]) (st := [.io o]) (fun _ => true) (fun x => .tuple [.str "not", x]) N (by
      intro x hx
      exact ⟨_, rfl, rfl, fun _ => ⟨.val (.tuple [.str "not", x]), eTup_ok (es := [.val (.str "not"), .val x]) (ds := [.str "not", x]) (st1 := [.io o]) rfl rfl (by show 2 ≤ Lim; decide), rfl⟩⟩)
    rw [List.filter_eq_self.mpr (fun _ _ => rfl)] at go2
    have ct : eCut (eName 5) oNone (oInt (u1 negD (eD (.int 1)))) (tsl (nt ps) dp (.val t) (.val (.int p)) (.val (.list (N ++ [t]))) s6 s7 s8 s9 s10 s11 s12) [.io o] = .ok (.new (.lst N)) [.io o] := by
      have e : eCut (eName 5) oNone (oInt (u1 negD (eD (.int 1)))) (tsl (nt ps) dp (.val t) (.val (.int p)) (.val (.list (N ++ [t]))) s6 s7 s8 s9 s10 s11 s12) [.io o] = .ok (.new (.lst (cutL (N ++ [t]) none (some (-1))))) [.io o] := rfl
      rw [e, cut_last]
    have lc2 : eLc [6] (iSeq (eCut (eName 5) oNone (oInt (u1 negD (eD (.int 1)))))) (gN 6) tTrue (eTup (aCons (eD (.str "not")) (aCons (eName 6) aNil))) (tsl (nt ps) dp (.val t) (.val (.int p)) (.val (.list (N ++ [t]))) s6 s7 s8 s9 s10 s11 s12) [.io o] = .ok (.new (.lst (N.map fun x => .tuple [.str "not", x]))) [.io o] :=
      eLc_ok (ds := N) (st1 := [.io o]) (iSeq_list ct rfl) go2 (by rw [List.length_map]; unfold Lim; omega)
    have a2 : u2 addD (eName 5) (eLc [6] (iSeq (eCut (eName 5) oNone (oInt (u1 negD (eD (.int 1)))))) (gN 6) tTrue (eTup (aCons (eD (.str "not")) (aCons (eName 6) aNil)))) (tsl (nt ps) dp (.val t) (.val (.int p)) (.val (.list (N ++ [t]))) s6 s7 s8 s9 s10 s11 s12) [.io o] = .ok (.new (.lst ((N ++ [t]) ++ N.map fun x => .tuple [.str "not", x]))) [.io o] := by
      have n5 : eName 5 (tsl (nt ps) dp (.val t) (.val (.int p)) (.val (.list (N ++ [t]))) s6 s7 s8 s9 s10 s11 s12) [.io o] = .ok (.val (.list (N ++ [t]))) [.io o] := rfl
      refine u2_ok (r := .new (.lst ((N ++ [t]) ++ N.map fun x => .tuple [.str "not", x]))) n5 lc2 rfl rfl ?_
      show (if (N ++ [t]).length + (N.map fun x => PyData.tuple [.str "not", x]).length ≤ Lim then some (OR.new (.lst ((N ++ [t]) ++ N.map fun x => .tuple [.str "not", x]))) else none) = _
      rw [if_pos (by rw [List.length_append, List.length_singleton, List.length_map]; unfold Lim; omega)]
    refine ⟨(N ++ [t]) ++ N.map fun x => .tuple [.str "not", x], sSeq_ok (sSet_ok a1 rfl) (sIf_ok ts (bif_t rfl (sSet_ok a2 rfl))), by simp only [List.length_append, List.length_singleton, List.length_map]; omega, by simp only [List.length_append, List.length_singleton, List.length_map]; omega, fun x hx => ?_⟩
    rcases List.mem_append.mp hx with q | q
    · exact v1 x q
    · obtain ⟨y, hy, rfl⟩ := List.mem_map.mp q
      obtain ⟨s, rfl, hs⟩ := vN y hy
      exact .inr ⟨"not", [.str s], rfl, by decide, (show 1 = ar "not" by decide +kernel), fun z hz => by rw [List.mem_singleton.mp hz]; exact VT.nm hs i⟩
end
theorem tup1 {i : Nat} {w : Str} {x : PyData} (hw : w ∈ W6) (ha : ar w = 1) (h : VT i x) : VT (i + 1) (.tuple [.str w, x]) := .inr ⟨w, [x], rfl, hw, ha.symm, fun z hz => by rw [List.mem_singleton.mp hz]; exact h⟩
theorem tup2 {i : Nat} {w : Str} {x y : PyData} (hw : w ∈ W6) (ha : ar w = 2) (h : VT i x) (h2 : VT i y) : VT (i + 1) (.tuple [.str w, x, y]) := .inr ⟨w, [x, y], rfl, hw, ha.symm, fun z hz => by
  simp only [List.mem_cons, List.not_mem_nil, or_false] at hz
  rcases hz with rfl | rfl
  · exact h
  · exact h2⟩
abbrev tBody : FS := (sSeq (sSet false 5 (u2 addD (eLc [11, 12] (iSeq (eName 1)) (gT 2 (gCons' (gN 11) (gCons' (gN 12) gNil'))) (t2 eqE (eName 12) (eName 4)) (eName 11)) (eLst (aCons (eName 3) aNil))))
    (sSeq (sIf (tNotF (tst (u1 (isD "str") (eName 3))))
    (sSet false 5 (u2 addD (eName 5) (eLc [6] (iSeq (eCut (eName 5) oNone (oInt (u1 negD (eD (.int 1)))))) (gN 6) tTrue (eTup (aCons (eD (.str "not")) (aCons (eName 6) aNil))))))
    sNext)
    (sSeq (sSet false 6 (u2 ixD (eName 5) (eCall d_l_take [true, false] (aCons (eName 0) (aCons (un lenD (aCons (eName 5) aNil)) aNil)))))
    (sSeq (sSet false 7 (eCall d_l_take [true, false] (aCons (eName 0) (aCons (u2 ixD (eLst (aCons (eD (.int 3)) (aCons (eD (.int 6)) aNil))) (u2 subD (eName 4) (eD (.int 1)))) aNil))))
    (sSeq (sSet false 8 (u2 ixD (eLst (aCons (eTup (aCons (eName 3) (aCons (eName 6) aNil))) (aCons (eTup (aCons (eName 6) (aCons (eName 3) aNil))) aNil))) (eCall d_l_take [true, false] (aCons (eName 0) (aCons (eD (.int 2)) aNil)))))
    (sSeq (sSet false 9 (eLst (aCons (eTup (aCons (eD (.str "not")) (aCons (eName 3) aNil))) (aCons (u2 addD (eTup (aCons (eD (.str "both")) aNil)) (eName 8)) (aCons (u2 addD (eTup (aCons (eD (.str "either")) aNil)) (eName 8)) (aCons (u2 addD (eTup (aCons (eD (.str "chain")) aNil)) (eName 8)) aNil))))))
    (sSeq (sSet false 3 (u2 ixD (u2 addD (eName 9) (eLst (aCons (eTup (aCons (eD (.str "turned")) (aCons (eName 3) aNil))) (aCons (eTup (aCons (eD (.str "some")) (aCons (eName 3) aNil))) aNil)))) (eName 7)))
    (sSet false 4 (u2 subD (eName 4) (un intD (aCons (u2 (asB eqE) (eName 7) (eD (.int 5))) aNil)))))))))))
theorem seq_assoc {a b c : FS} {sl sl1 : Sls} {st st1 : Sto} {R : RS} (h : sSeq a b sl st = .nx sl1 st1) (q : c sl1 st1 = R) : sSeq a (sSeq b c) sl st = R := by
  unfold sSeq at h ⊢
  cases ha : a sl st with
  | nx sl2 st2 =>
    rw [ha] at h
    dsimp only at h ⊢
    rw [h]
    exact q
  | _ => rw [ha] at h; cases h
section
variable {ps : List (Str × Int)} (hn : Nt ps)
include hn
theorem tBody_ok {i : Nat} {t : PyData} {p n : Int} {dp s5 s6 s7 s8 s9 s10 s11 s12 : Sl} {o : MO} (ht : VT i t) (hi : asStr t = false → 1 ≤ i) (hp : p = 1 ∨ p = 2) (h : PoolAt n o) (hc : n < 900000) :
    ∃ (t' : PyData) (p' : Int) (o' : MO) (x5 x6 x7 x8 x9 : Sl), tBody (tsl (nt ps) dp (.val t) (.val (.int p)) s5 s6 s7 s8 s9 s10 s11 s12) [.io o] = .nx (tsl (nt ps) dp (.val t') (.val (.int p')) x5 x6 x7 x8 x9 s10 s11 s12) [.io o'] ∧ VT (i + 1) t' ∧ (p' = 1 ∨ p' = 2) ∧ PoolAt (n + 3) o' := by
  obtain ⟨M, b1, m1, m7, mv⟩ := mates_ok hn (i := i) (t := t) (p := p) (dp := dp) (s5 := s5) (s6 := s6) (s7 := s7) (s8 := s8) (s9 := s9) (s10 := s10) (s11 := s11) (s12 := s12) (o := o) ht hi
  have le : un lenD (aCons (eName 5) aNil) (tsl (nt ps) dp (.val t) (.val (.int p)) (.val (.list M)) s6 s7 s8 s9 s10 s11 s12) [.io o] = .ok (.val (.int M.length)) [.io o] := un_ok (r := .val (.int M.length)) (es := [.val (.list M)]) (ds := [.list M]) (aCons_ok (e1 := .val (.list M)) (es := []) rfl rfl) rfl rfl
  obtain ⟨j0, o1, e1, j1, j2, p1⟩ := etake (r := []) rfl le h (by omega) (by omega) (by omega)
  obtain ⟨j, rfl⟩ := Int.eq_ofNat_of_zero_le j1
  have jl : j < M.length := by omega
  obtain ⟨x, hx⟩ : ∃ x, M[j] = x := ⟨_, rfl⟩
  have vx : VT i x := by rw [← hx]; exact mv _ (List.getElem_mem jl)
  have s6n : u2 ixD (eName 5) (eCall d_l_take [true, false] (aCons (eName 0) (aCons (un lenD (aCons (eName 5) aNil)) aNil))) (tsl (nt ps) dp (.val t) (.val (.int p)) (.val (.list M)) s6 s7 s8 s9 s10 s11 s12) [.io o] = .ok (.val x) [.io o1] := by
    refine u2_ok (r := .val x) (e1 := .val (.list M)) rfl e1 rfl rfl ?_
    rw [(ix_nat jl).1, hx]
  obtain ⟨k, hk, hk0⟩ : ∃ k : Int, u2 ixD (eLst (aCons (eD (.int 3)) (aCons (eD (.int 6)) aNil))) (u2 subD (eName 4) (eD (.int 1))) (tsl (nt ps) dp (.val t) (.val (.int p)) (.val (.list M)) (.val x) s7 s8 s9 s10 s11 s12) [.io o1] = .ok (.val (.int k)) [.io o1] ∧ ((p = 1 ∧ k = 3) ∨ (p = 2 ∧ k = 6)) := by
    rcases hp with rfl | rfl
    · exact ⟨3, rfl, .inl ⟨rfl, rfl⟩⟩
    · exact ⟨6, rfl, .inr ⟨rfl, rfl⟩⟩
  obtain ⟨w0, o2, e2, w1, w2, p2⟩ := etake (r := []) rfl hk p1 (by omega) (by omega) (by omega)
  obtain ⟨w, rfl⟩ := Int.eq_ofNat_of_zero_le w1
  obtain ⟨c0, o3, e3, c1, c2, p3⟩ := etake (sl := tsl (nt ps) dp (.val t) (.val (.int p)) (.val (.list M)) (.val x) (.val (.int w)) s8 s9 s10 s11 s12) (r := []) (f := eD (.int 2)) rfl rfl p2 (by omega) (by omega) (by omega)
  obtain ⟨a, b, s8n, va, vb⟩ : ∃ a b, u2 ixD (eLst (aCons (eTup (aCons (eName 3) (aCons (eName 6) aNil))) (aCons (eTup (aCons (eName 6) (aCons (eName 3) aNil))) aNil))) (eCall d_l_take [true, false] (aCons (eName 0) (aCons (eD (.int 2)) aNil))) (tsl (nt ps) dp (.val t) (.val (.int p)) (.val (.list M)) (.val x) (.val (.int w)) s8 s9 s10 s11 s12) [.io o2] = .ok (.val (.tuple [a, b])) [.io o3] ∧ VT i a ∧ VT i b := by
    rcases (show c0 = 0 ∨ c0 = 1 by omega) with rfl | rfl
    · exact ⟨t, x, u2_ok (r := .val (.tuple [t, x])) (e1 := .new (.lst [.tuple [t, x], .tuple [x, t]])) (st1 := [.io o2]) rfl e3 rfl rfl rfl, ht, vx⟩
    · exact ⟨x, t, u2_ok (r := .val (.tuple [x, t])) (e1 := .new (.lst [.tuple [t, x], .tuple [x, t]])) (st1 := [.io o2]) rfl e3 rfl rfl rfl, vx, ht⟩
  have s9n : eLst (aCons (eTup (aCons (eD (.str "not")) (aCons (eName 3) aNil))) (aCons (u2 addD (eTup (aCons (eD (.str "both")) aNil)) (eName 8)) (aCons (u2 addD (eTup (aCons (eD (.str "either")) aNil)) (eName 8)) (aCons (u2 addD (eTup (aCons (eD (.str "chain")) aNil)) (eName 8)) aNil)))) (tsl (nt ps) dp (.val t) (.val (.int p)) (.val (.list M)) (.val x) (.val (.int w)) (.val (.tuple [a, b])) s9 s10 s11 s12) [.io o3] =
      .ok (.new (.lst [.tuple [.str "not", t], .tuple [.str "both", a, b], .tuple [.str "either", a, b], .tuple [.str "chain", a, b]])) [.io o3] := rfl
  have s3n : u2 addD (eName 9) (eLst (aCons (eTup (aCons (eD (.str "turned")) (aCons (eName 3) aNil))) (aCons (eTup (aCons (eD (.str "some")) (aCons (eName 3) aNil))) aNil))) (tsl (nt ps) dp (.val t) (.val (.int p)) (.val (.list M)) (.val x) (.val (.int w)) (.val (.tuple [a, b])) (.val (.list [.tuple [.str "not", t], .tuple [.str "both", a, b], .tuple [.str "either", a, b], .tuple [.str "chain", a, b]])) s10 s11 s12) [.io o3] =
      .ok (.new (.lst [.tuple [.str "not", t], .tuple [.str "both", a, b], .tuple [.str "either", a, b], .tuple [.str "chain", a, b], .tuple [.str "turned", t], .tuple [.str "some", t]])) [.io o3] := rfl
  have w6 : w < 6 := by omega
  have all6 : ∀ z ∈ [PyData.tuple [.str "not", t], .tuple [.str "both", a, b], .tuple [.str "either", a, b], .tuple [.str "chain", a, b], .tuple [.str "turned", t], .tuple [.str "some", t]], VT (i + 1) z := by
    intro z hz
    simp only [List.mem_cons, List.not_mem_nil, or_false] at hz
    rcases hz with rfl | rfl | rfl | rfl | rfl | rfl
    · exact tup1 (by decide) (by decide +kernel) ht
    · exact tup2 (by decide) (by decide +kernel) va vb
    · exact tup2 (by decide) (by decide +kernel) va vb
    · exact tup2 (by decide) (by decide +kernel) va vb
    · exact tup1 (by decide) (by decide +kernel) ht
    · exact tup1 (by decide) (by decide +kernel) ht
  obtain ⟨t', ht'⟩ : ∃ t', [PyData.tuple [.str "not", t], .tuple [.str "both", a, b], .tuple [.str "either", a, b], .tuple [.str "chain", a, b], .tuple [.str "turned", t], .tuple [.str "some", t]][w] = t' := ⟨_, rfl⟩
  have vt' : VT (i + 1) t' := by rw [← ht']; exact all6 _ (List.getElem_mem w6)
  have s3m : u2 ixD (u2 addD (eName 9) (eLst (aCons (eTup (aCons (eD (.str "turned")) (aCons (eName 3) aNil))) (aCons (eTup (aCons (eD (.str "some")) (aCons (eName 3) aNil))) aNil)))) (eName 7) (tsl (nt ps) dp (.val t) (.val (.int p)) (.val (.list M)) (.val x) (.val (.int w)) (.val (.tuple [a, b])) (.val (.list [.tuple [.str "not", t], .tuple [.str "both", a, b], .tuple [.str "either", a, b], .tuple [.str "chain", a, b]])) s10 s11 s12) [.io o3] = .ok (.val t') [.io o3] := by
    refine u2_ok (r := .val t') s3n (e2 := .val (.int w)) (st2 := [.io o3]) rfl rfl rfl ?_
    exact (ix_nat w6).1.trans (by rw [ht'])
  have s4n : u2 subD (eName 4) (un intD (aCons (u2 (asB eqE) (eName 7) (eD (.int 5))) aNil)) (tsl (nt ps) dp (.val t') (.val (.int p)) (.val (.list M)) (.val x) (.val (.int w)) (.val (.tuple [a, b])) (.val (.list [.tuple [.str "not", t], .tuple [.str "both", a, b], .tuple [.str "either", a, b], .tuple [.str "chain", a, b]])) s10 s11 s12) [.io o3] = .ok (.val (.int (p - if ((w : Int) == 5) = true then 1 else 0))) [.io o3] := by
    have q : u2 (asB eqE) (eName 7) (eD (.int 5)) (tsl (nt ps) dp (.val t') (.val (.int p)) (.val (.list M)) (.val x) (.val (.int w)) (.val (.tuple [a, b])) (.val (.list [.tuple [.str "not", t], .tuple [.str "both", a, b], .tuple [.str "either", a, b], .tuple [.str "chain", a, b]])) s10 s11 s12) [.io o3] = .ok (.val (.bool ((w : Int) == 5))) [.io o3] := u2_ok (r := .val (.bool ((w : Int) == 5))) rfl rfl rfl rfl rfl
    exact u2_ok (r := .val (.int (p - if ((w : Int) == 5) = true then 1 else 0))) (e1 := .val (.int p)) (st1 := [.io o3]) rfl (un_ok (r := .val (.int (if ((w : Int) == 5) = true then 1 else 0))) (es := [.val (.bool ((w : Int) == 5))]) (ds := [.bool ((w : Int) == 5)]) (aCons_ok q rfl) rfl rfl) rfl rfl rfl
  refine ⟨t', p - (if ((w : Int) == 5) = true then 1 else 0), o3, _, _, _, _, _, seq_assoc b1 (sSeq_ok (sSet_ok s6n rfl) (sSeq_ok (sSet_ok e2 rfl) (sSeq_ok (sSet_ok s8n rfl) (sSeq_ok (sSet_ok s9n rfl) (sSeq_ok (sSet_ok s3m rfl) (sSet_ok s4n rfl)))))), vt', ?_, p3.mono (by omega)⟩
  by_cases z : w = 5
  · subst z
    rw [if_pos (by rfl)]
    omega
  · rw [if_neg (by rw [beq_iff_eq]; omega)]
    omega
theorem term_ok {deep : Nat} {n : Int} {o : MO} (hd : deep ≤ 3) (h : PoolAt n o) (hc : n < 800000) : ∃ (t : PyData) (p : Int) (o' : MO), d_l_term [.io o, .val (nt ps), .val (.int deep)] = .rt (.tuple [t, .int p]) [o'] ∧ VT 3 t ∧ PoolAt (n + 11) o' := by
  have h1 := hn.one
  have h3 := hn.three
  have le : un lenD (aCons (eName 1) aNil) (tsl (nt ps) (.val (.int deep)) .non .non .non .non .non .non .non .non .non .non) [.io o] = .ok (.val (.int ps.length)) [.io o] := by
    refine un_ok (r := .val (.int ps.length)) (es := [.val (nt ps)]) (ds := [nt ps]) (aCons_ok (e1 := .val (nt ps)) (es := []) rfl rfl) rfl ?_
    show some (OR.val (.int (ps.map nd).length)) = _
    rw [List.length_map]
  obtain ⟨j0, o1, e1, j1, j2, p1⟩ := etake (r := []) rfl le h (by omega) (by omega) (by omega)
  obtain ⟨j, rfl⟩ := Int.eq_ofNat_of_zero_le j1
  have jl : j < (ps.map nd).length := by rw [List.length_map]; omega
  have jl' : j < ps.length := by omega
  obtain ⟨q, hq⟩ : ∃ q, ps[j] = q := ⟨_, rfl⟩
  have qm : q ∈ ps := by rw [← hq]; exact List.getElem_mem jl'
  have first : sAsg (gT 2 (gCons' (gN 3) (gCons' (gN 4) gNil'))) (u2 ixD (eName 1) (eCall d_l_take [true, false] (aCons (eName 0) (aCons (un lenD (aCons (eName 1) aNil)) aNil)))) (tsl (nt ps) (.val (.int deep)) .non .non .non .non .non .non .non .non .non .non) [.io o] = .nx (tsl (nt ps) (.val (.int deep)) (.val (.str q.1)) (.val (.int q.2)) .non .non .non .non .non .non .non .non) [.io o1] := by
    have u : u2 ixD (eName 1) (eCall d_l_take [true, false] (aCons (eName 0) (aCons (un lenD (aCons (eName 1) aNil)) aNil))) (tsl (nt ps) (.val (.int deep)) .non .non .non .non .non .non .non .non .non .non) [.io o] = .ok (.val (nd q)) [.io o1] := by
      refine u2_ok (r := .val (nd q)) (e1 := .val (nt ps)) rfl e1 rfl rfl ?_
      rw [(ix_nat jl).2, List.getElem_map, hq]
    unfold sAsg
    rw [u]
    rfl
  have dl : u2 addD (eName 2) (eD (.int 1)) (tsl (nt ps) (.val (.int deep)) (.val (.str q.1)) (.val (.int q.2)) .non .non .non .non .non .non .non .non) [.io o1] = .ok (.val (.int ((deep : Int) + 1))) [.io o1] := u2_ok (r := .val (.int ((deep : Int) + 1))) rfl rfl rfl rfl rfl
  obtain ⟨c0, o2, e2, c1, c2, p2⟩ := etake (r := []) rfl dl p1 (by omega) (by omega) (by omega)
  obtain ⟨c, rfl⟩ := Int.eq_ofNat_of_zero_le c1
  have c3 : c ≤ 3 := by omega
  have nmq : NmS q.1 := ⟨(hn.each q qm).1, hn.noword (List.mem_map_of_mem qm)⟩
  obtain ⟨sl', st', f1, t, p, o3, x5, x6, x7, x8, x9, x10, rfl, rfl, vt, _, hp, p3⟩ := sFor_inv (h := gN 10) (b := tBody) (fun i sl st => ∃ (t : PyData) (p : Int) (o' : MO) (x5 x6 x7 x8 x9 x10 : Sl), sl = tsl (nt ps) (.val (.int deep)) (.val t) (.val (.int p)) x5 x6 x7 x8 x9 x10 .non .non ∧ st = [.io o'] ∧ VT i t ∧ (asStr t = false → 1 ≤ i) ∧ (p = 1 ∨ p = 2) ∧ PoolAt (n + 2 + 3 * i) o')
    (rngL 0 c) 0 (tsl (nt ps) (.val (.int deep)) (.val (.str q.1)) (.val (.int q.2)) .non .non .non .non .non .non .non .non) [.io o2] ⟨.str q.1, q.2, o2, _, _, _, _, _, _, rfl, rfl, VT.nm nmq 0, (fun z => nomatch z), hn.places q qm, p2.mono (by omega)⟩ (by
      rintro i dd sl st hdd ⟨t, p, o', x5, x6, x7, x8, x9, x10, rfl, rfl, vt, hi, hp, pp⟩
      have ic : i < c := by
        have := (List.getElem?_eq_some_iff.mp hdd).1
        rw [rngL_len] at this
        exact this
      rw [Nat.zero_add] at *
      obtain ⟨t', p', o2, y5, y6, y7, y8, y9, b, v', hp', pp'⟩ := tBody_ok hn (dp := .val (.int deep)) (s5 := x5) (s6 := x6) (s7 := x7) (s8 := x8) (s9 := x9) (s10 := .val dd) (s11 := .non) (s12 := .non) vt hi hp pp (by omega)
      exact ⟨_, rfl, _, _, b, t', p', o2, _, _, _, _, _, _, rfl, rfl, v', fun _ => by omega, hp', pp'.mono (by omega)⟩)
  rw [Nat.zero_add, rngL_len] at vt p3
  refine ⟨t, p, o3, ?_, VT.mono c3 vt, p3.mono (by omega)⟩
  apply runD_rt (st := [.io o3])
  show g_l_term (tsl (nt ps) (.val (.int deep)) .non .non .non .non .non .non .non .non .non .non) [.io o] = _
  unfold g_l_term
  refine sSeq_ok first ?_
  refine sSeq_ok (sForI_ok (ds := rngL 0 c) (st1 := [.io o2]) (iR1_ok (n := c) e2 ⟨by omega, by omega⟩) f1) ?_
  exact sRet_ok (e1 := .val (.tuple [t, .int p])) (st1 := [.io o3]) (eTup_ok (es := [.val t, .val (.int p)]) (ds := [t, .int p]) (st1 := [.io o3]) rfl rfl (by show 2 ≤ Lim; decide)) rfl
end
end G03
namespace G03
open PySem PySem.Spec PyProof.Rows L2 Px
theorem sFor_cons {h : FG} {b : FS} {d : PyData} {ds : List PyData} {sl sl1 sl2 : Sls} {st st2 : Sto} {R : RS} (h1 : h d sl = some sl1) (h2 : b sl1 st = .nx sl2 st2) (h3 : sFor h b ds sl2 st2 = R) : sFor h b (d :: ds) sl st = R := by
  unfold sFor
  rw [h1]
  dsimp only
  rw [h2]
  exact h3
/-! ### tuples of unknowns -/
/-! ### how wide a term is -/
theorem val_some {s : Str} : ∀ {ps : List (Str × Int)}, s ∈ ps.map (·.1) → valD (.inr s) (ps.map kv) = some (.int (look ps s))
  | [], h => nomatch h
  | p :: r, h => by
    show (if (some (Sum.inr p.1) : Option Key) = some (.inr s) then some (PyData.int p.2) else valD (.inr s) (r.map kv)) = some (.int (if p.1 = s then p.2 else look r s))
    by_cases e : p.1 = s
    · rw [if_pos (by rw [e]), if_pos e]
    · rw [if_neg (fun z => e (Sum.inr.inj (Option.some.inj z))), if_neg e]
      rw [List.map_cons] at h
      exact val_some ((List.mem_cons.mp h).resolve_left fun z => e z.symm)
end G03
namespace G03
open PySem PySem.Spec PyProof.Rows L2 Px
theorem own_pos {ps : List (Str × Int)} (hn : Nt ps) {k : Nat} {w : PyData} {xs : List PyData} (h : 0 < wordP w (xs.map (plc ps k))) : ∀ x ∈ xs, 0 < plc ps k x := fun x hx => by
  have r := (plc_rng hn.places k x).1
  have n0 : plc ps k x ≠ 0 := fun z => by
    rw [wordP_zero (List.mem_map.mpr ⟨x, hx, z⟩)] at h
    omega
  omega
theorem plc_up {ps : List (Str × Int)} (hn : Nt ps) : ∀ (k : Nat) (d : PyData), 0 < plc ps k d → plc ps (k + 1) d = plc ps k d
  | k, .str s, _ => by cases k <;> rfl
  | 0, .tuple _, h => absurd (show (0 : Int) < 0 from h) (by omega)
  | k + 1, .tuple [], h => absurd (show (0 : Int) < 0 from h) (by omega)
  | k + 1, .tuple (w :: xs), h => by
    have h' : 0 < wordP w (xs.map (plc ps k)) := h
    show wordP w (xs.map (plc ps (k + 1))) = wordP w (xs.map (plc ps k))
    rw [List.map_congr_left fun x hx => plc_up hn k x (own_pos hn h' x hx)]
  | k, .none, h => by rw [plc_other k rfl rfl] at h; omega
  | k, .bool _, h => by rw [plc_other k rfl rfl] at h; omega
  | k, .int _, h => by rw [plc_other k rfl rfl] at h; omega
  | k, .list _, h => by rw [plc_other k rfl rfl] at h; omega
  | k, .dict _, h => by rw [plc_other k rfl rfl] at h; omega
/-! ### the law's terms -/
abbrev kIn : FS := sSetKey (eName 3) (eName 2) (eCall (d_l_text 5) [false] (aCons (eName 3) aNil))
/-- the names and the shown terms -/
def TS (ps : List (Str × Int)) (sh : List PyData) : List PyData := (ps.map fun q => .str q.1) ++ sh
theorem addL {a b : List PyData} (h : a.length + b.length ≤ 1000) : addD (.list a) (.list b) = some (.new (.lst (a ++ b))) := by
  show (if a.length + b.length ≤ Lim then some (OR.new (.lst (a ++ b))) else none) = _
  rw [if_pos (by unfold Lim; omega)]
section
variable {ps : List (Str × Int)} (hn : Nt ps) {sh : List PyData} (hs : ∀ t ∈ sh, 0 < plc ps 3 t) (h4 : sh.length ≤ 4)
include hn hs h4
end
end G03
namespace G03
open PySem PySem.Spec PyProof.Rows L2 Px
theorem ok_all {ds : List PyData} {n : Nat} (h : ∀ d ∈ ds, nodict d = true ∧ d.depth ≤ n) : nodictA ds = true ∧ PyData.depthAll ds ≤ n := by
  induction ds with
  | nil => exact ⟨rfl, by simp only [PyData.depthAll]; omega⟩
  | cons d ds ih =>
    obtain ⟨a, b⟩ := ih fun x hx => h x (List.mem_cons_of_mem _ hx)
    obtain ⟨c, e⟩ := h d List.mem_cons_self
    refine ⟨?_, by simp only [PyData.depthAll]; omega⟩
    show (nodict d && nodictA ds) = true
    rw [a, c]
    rfl
theorem vt_ok : ∀ {k : Nat} {d : PyData}, VT k d → nodict d = true ∧ d.depth ≤ k
  | 0, _, ⟨s, e, _⟩ => by rw [e]; exact ⟨rfl, by simp only [PyData.depth]; omega⟩
  | k + 1, d, h => by
    rcases h with ⟨s, e, _⟩ | ⟨w, xs, e, hw, hl, hx⟩
    · rw [e]; exact ⟨rfl, by simp only [PyData.depth]; omega⟩
    · rw [e]
      obtain ⟨a, b⟩ := ok_all (n := k) fun x m => vt_ok (hx x m)
      refine ⟨?_, ?_⟩
      · show (nodict (.str w) && nodictA xs) = true
        rw [a]
        rfl
      · simp only [PyData.depth, PyData.depthAll]
        omega
theorem word_atom {m : Nat} {w : Str} (h : w ∈ W6) : Atom m (.str w) := by
  refine ⟨?_, fun c hc => (W6_chr w h c hc).2⟩
  have := W6_len w h
  have e : w.cps.toList.length = w.length := Array.length_toList
  omega
theorem name_atom {m : Nat} {s : Str} (h : NameS s) : Atom m (.str s) := by
  obtain ⟨l, rfl, h1, h2, h3⟩ := h
  have low : ∀ c ∈ abc, c < 128 := by decide
  exact ⟨by rw [tx_len]; omega, low_tx fun c hc => low c (h3 c hc)⟩
section
variable {ps : List (Str × Int)} (hn : Nt ps) {sh : List PyData} (hs : ∀ t ∈ sh, 0 < plc ps 3 t) (h4 : sh.length ≤ 4) {n : Nat} (hn4 : n ≤ 4)
include hn hs h4 hn4
end
end G03
namespace G03
open PySem PySem.Spec PyProof.Rows L2 Px
/-! ### equal terms -/
/-! ### numbers of unknowns -/
/-! ### notions are the law's notions -/
end G03
namespace G03
open PySem PySem.Spec PyProof.Rows L2 Px
section
variable {ps : List (Str × Int)} (hn : Nt ps) {m j : Nat} (hm : m ≤ 10)
include hn hm
end
end G03

namespace G03
open PySem PySem.Spec PyProof.Rows L2 Px
/-! ### any term -/
theorem plc_mono {ps : List (Str × Int)} (hn : Nt ps) {c : Nat} {d : PyData} (h : 0 < plc ps c d) : ∀ k : Nat, plc ps (c + k) d = plc ps c d
  | 0 => rfl
  | k + 1 => by
    have ih := plc_mono hn h k
    show plc ps (c + k + 1) d = _
    rw [plc_up hn (c + k) d (by rw [ih]; exact h), ih]
section
variable {ps : List (Str × Int)} (hn : Nt ps)
include hn
end
section
variable {ps : List (Str × Int)} (hn : Nt ps)
include hn
end
end G03
namespace G03
open PySem PySem.Spec PyProof.Rows L2 Px
end G03
namespace G03
open PySem PySem.Spec PyProof.Rows L2 Px
end G03
namespace G03
open PySem PySem.Spec PyProof.Rows L2 Px PySem.Builtin PySem.Builtin.Str
abbrev SP (pre : Sto) (o : MO) : Sto := pre ++ [.live o]
theorem getP (pre : Sto) (o : MO) : (SP pre o)[pre.length]? = some (.live o) := by simp
theorem putP (pre : Sto) (o o2 : MO) : Px.putAll (SP pre o) [pre.length] [o2] = SP pre o2 := by
  unfold Px.putAll
  rw [getP]
  show Px.putAll ((pre ++ [Cell.live o]).set pre.length (Cell.live o2)) [] [] = _
  have : (pre ++ [Cell.live o]).set pre.length (.live o2) = pre ++ [.live o2] := by simp
  rw [this]
  rfl
theorem argP (pre : Sto) (o : MO) (vs : List PyData) : argsM (SP pre o) (.inr pre.length :: vs.map .inl) = some (.io o :: vs.map .val, [pre.length]) := by
  have go : ∀ vs : List PyData, argsM (SP pre o) (vs.map .inl) = some (vs.map .val, []) := by
    intro vs
    induction vs with
    | nil => rfl
    | cons v vs ih =>
      show (match argsM (SP pre o) (vs.map .inl) with
        | none => none
        | some (as, ns) => some (Arg.val v :: as, ns)) = _
      rw [ih]
      rfl
  show (match (SP pre o)[pre.length]?, argsM (SP pre o) (vs.map .inl) with
    | some (.live o), some (as, ns) => some (Arg.io o :: as, pre.length :: ns)
    | some (.io o), some (as, ns) => some (Arg.io o :: as, pre.length :: ns)
    | _, _ => none) = _
  rw [getP, go]
/-- a call that is told the pool -/
theorem callP {D : FD} {ms : List Bool} {fa : FA} {sl : Sls} {pre : Sto} {o o1 o2 : MO} {vs : List PyData} {d : PyData} (h2 : sl[2]? = some (.ref pre.length)) (hf : fa sl (SP pre o) = .ok (vs.map .val) (SP pre o1))
    (hm : fixM ms (.bor pre.length :: vs.map .val) (SP pre o1) = some (.inr pre.length :: vs.map .inl, SP pre o1)) (hD : D (.io o1 :: vs.map .val) = .rt d [o2]) : eCall D ms (aCons (eName 2) fa) sl (SP pre o) = .ok (.val d) (SP pre o2) := by
  have en : eName 2 sl (SP pre o) = .ok (.bor pre.length) (SP pre o) := by unfold eName; rw [h2]
  have := eCall_ok (sl := sl) (st := SP pre o) (D := D) (ms := ms) (os := [o2]) (ns := [pre.length]) (aCons_ok en hf) hm (argP pre o1 vs) (by simp) hD rfl
  rw [putP] at this
  exact this
theorem call2_new {D : FD} {f g : FE} {sl : Sls} {st : Sto} {a b : PyData} {o : MO} (hf : f sl st = .ok (.val a) st) (hg : g sl st = .ok (.val b) st) (hD : D [.val a, .val b] = .rn o []) : eCall D [false, false] (aCons f (aCons g aNil)) sl st = .ok (.new o) st := by
  have := eCall_new (sl := sl) (st := st) (D := D) (ms := [false, false]) (es := [.val a, .val b]) (rs := [.inl a, .inl b]) (as := [.val a, .val b]) (ns := []) (os := []) (st1 := st) (st2 := st) (aCons_ok hf (aCons_ok (g := aNil) (es := []) hg rfl)) rfl rfl (by decide) hD rfl
  rw [this]
  cases st <;> rfl
theorem outs_live : ∀ {st : Sto}, (∀ x ∈ st, ∃ y, x = Cell.live y) → outs st = []
  | [], _ => rfl
  | x :: st, h => by
    obtain ⟨y, rfl⟩ := h x List.mem_cons_self
    rfl
/-! ### of what size things are -/
theorem vt_sz0 : ∀ {k : Nat} {d : PyData}, k ≤ 3 → VT k d → Sz 0 (k + 2) d
  | 0, _, _, ⟨s, e, h⟩ => by rw [e]; exact sz_atom (name_atom h.1)
  | k + 1, d, hk, h => by
    rcases h with ⟨s, e, h⟩ | ⟨w, xs, e, hw, hl, hx⟩
    · rw [e]; exact .inl (name_atom h.1)
    · rw [e]
      have := (ar_le w).2
      have w3 : wd (k + 1 + 2) = 3 := by
        rcases (show k = 0 ∨ k = 1 ∨ k = 2 by omega) with rfl | rfl | rfl <;> decide
      refine sz_tup (n := k + 2) (by rw [List.length_cons]; show _ ≤ wd (k + 1 + 2) + 0; omega) fun x m => ?_
      rcases List.mem_cons.mp m with q | q
      · rw [q]; exact sz_atom (word_atom hw)
      · exact vt_sz0 (by omega) (hx x q)
/-! ### fields at their bounds -/
end G03
/-! K3: places, by the law -/
namespace G03
open PySem PySem.Spec PyProof.Rows L2 Px
section
variable {ps : List (Str × Int)} (hn : (ps.map (·.1)).Nodup) (hp : ∀ p ∈ ps, p.2 = 1 ∨ p.2 = 2) (h3 : ps.length ≤ 3) {m : Nat} (hm : m ≤ 10)
include hn hp h3 hm
theorem l_places_ok : ∀ (k n j : Nat) (d : PyData), k < n → Sz m j d → d_l_places n [.val (.tuple (ps.map nd)), .val d, .val (.int k)] = .rt (.int (plc ps k d)) []
  | k, 0, _, _, h, _ => absurd h (by omega)
  | k, n + 1, j, d, hk, hd => by
    show runD 6 (g_l_places (d_l_places n)) _ = _
    apply runD_rt (st := [])
    show g_l_places (d_l_places n) [.val (.tuple (ps.map nd)), .val d, .val (.int k), .non, .non, .non] [] = _
    unfold g_l_places
    have ts : tst (u1 (isD "str") (eName 1)) [.val (.tuple (ps.map nd)), .val d, .val (.int k), .non, .non, .non] [] = .ok (asStr d) [] := tst_ok (u1_ok (r := .val (.bool (asStr d))) rfl rfl (is_str d))
    have tt : tNotF (tst (u1 (isD "tuple") (eName 1))) [.val (.tuple (ps.map nd)), .val d, .val (.int k), .non, .non, .non] [] = .ok (!asTup d) [] := tNotF_ok (tst_ok (u1_ok (r := .val (.bool (asTup d))) rfl rfl (is_tup d)))
    have tk : t2 eqE (eName 2) (eD (.int 0)) [.val (.tuple (ps.map nd)), .val d, .val (.int k), .non, .non, .non] [] = .ok (decide (k = 0)) [] := t2_ok rfl rfl rfl rfl (eq_len k 0)
    by_cases hs : asStr d = true
    · cases d with
      | str s =>
        have e : plc ps k (.str s) = look ps s := by cases k <;> rfl
        rw [e]
        have g : eGet (un dictD (aCons (eName 0) aNil)) (eName 1) (eD (.int 0)) [.val (.tuple (ps.map nd)), .val (.str s), .val (.int k), .non, .non, .non] [] = .ok (.val (.int (look ps s))) [] := by
          have u : un dictD (aCons (eName 0) aNil) [.val (.tuple (ps.map nd)), .val (.str s), .val (.int k), .non, .non, .non] [] = .ok (.new (.dic (ps.map kv))) [] := un_ok (r := .new (.dic (ps.map kv))) (es := [.val (.tuple (ps.map nd))]) (ds := [.tuple (ps.map nd)]) (aCons_ok (e1 := .val (.tuple (ps.map nd))) (es := []) rfl rfl) rfl (dict_nd hn)
          unfold eGet
          rw [u]
          show Re.ok (EV.val ((valD (.inr s) (ps.map kv)).getD (.int 0))) [] = _
          rw [val_kv]
        exact sSeq_rt (sIf_ok ts (bif_t rfl (sRet_ok (e1 := .val (.int (look ps s))) (st1 := []) g rfl)))
      | _ => cases hs
    rw [Bool.eq_false_iff.mpr hs] at ts
    refine sSeq_ok (sIf_ok ts rfl) ?_
    by_cases ht : asTup d = true
    · obtain ⟨ds, rfl⟩ := asTup_shape ht
      rw [ht] at tt
      cases k with
      | zero =>
        rw [decide_eq_true rfl] at tk
        have e : plc ps 0 (.tuple ds) = 0 := rfl
        rw [e]
        exact sSeq_rt (sIf_ok (tOrF_ok tk (bif_t rfl rfl)) rfl)
      | succ k =>
        rw [decide_eq_false (by omega)] at tk
        have te : t2 eqE (eName 1) (eTup aNil) [.val (.tuple (ps.map nd)), .val (.tuple ds), .val (.int (k + 1 : Nat)), .non, .non, .non] [] = .ok (emp (.tuple ds)) [] := t2_ok (e2 := .val (.tuple [])) rfl rfl rfl rfl (eqE_emp ds)
        cases ds with
        | nil => exact sSeq_rt (sIf_ok (tOrF_ok tk (bif_f rfl (tOrF_ok tt (bif_f rfl (tOrF_ok te (bif_t rfl rfl)))))) rfl)
        | cons w xs =>
          have tw : tNotF (tst (u1 (isD "str") (u2 ixD (eName 1) (eD (.int 0))))) [.val (.tuple (ps.map nd)), .val (.tuple (w :: xs)), .val (.int (k + 1 : Nat)), .non, .non, .non] [] = .ok (!asStr w) [] := tNotF_ok (tst_ok (u1_ok (r := .val (.bool (asStr w))) (a := w) (e1 := .val w) (st1 := []) (head_ev rfl) rfl (is_str w)))
          by_cases hw : asStr w = true
          · rw [hw] at tw
            refine sSeq_ok (sIf_ok (tOrF_ok tk (bif_f rfl (tOrF_ok tt (bif_f rfl (tOrF_ok te (bif_f rfl tw)))))) rfl) ?_
            cases j with
            | zero => exact (show False from hd).elim
            | succ j =>
              obtain ⟨z, q⟩ := sz_items hd
              have z' : xs.length ≤ 1000 := by rw [List.length_cons] at z; have := (wd_le (j + 1)).2; omega
              have ow := own_ev (D := d_l_places n) (nt := .tuple (ps.map nd)) (sl := [.val (.tuple (ps.map nd)), .val (.tuple (w :: xs)), .val (.int (k + 1 : Nat)), .non, .non, .non]) (v := 5) (k := k) (w := w) (xs := xs) (F := plc ps k) rfl rfl rfl (by omega) (by show 5 < 6; omega) z' fun x hx => l_places_ok k n j x (by omega) (q x (List.mem_cons_of_mem _ hx))
              have rng : ∀ a ∈ xs.map (plc ps k), 0 ≤ a ∧ a ≤ 2 := fun a ha => by
                obtain ⟨x, _, rfl⟩ := List.mem_map.mp ha
                exact plc_rng hp k x
              refine sSeq_ok (sl1 := [.val (.tuple (ps.map nd)), .val (.tuple (w :: xs)), .val (.int (k + 1 : Nat)), .val w, .val (.list ((xs.map (plc ps k)).map .int)), .non]) (st1 := []) ?_ (tail_ok rng)
              unfold sPar
              rw [aCons_ok (e1 := .val w) (es := [.val (.list ((xs.map (plc ps k)).map .int))]) (st1 := []) (st2 := []) (head_ev rfl) (aCons_ok (e1 := .new (.lst ((xs.map (plc ps k)).map .int))) (es := []) ow rfl)]
              rfl
          · have hw' := Bool.eq_false_iff.mpr hw
            rw [hw'] at tw
            have e : plc ps (k + 1) (.tuple (w :: xs)) = 0 := by
              show wordP w (xs.map (plc ps k)) = 0
              have no : ∀ s : Str, isW w s = false := fun s => by cases w <;> first | rfl | cases hw'
              unfold wordP
              rw [no, no, no, no, no, no]
              rfl
            rw [e]
            exact sSeq_rt (sIf_ok (tOrF_ok tk (bif_f rfl (tOrF_ok tt (bif_f rfl (tOrF_ok te (bif_f rfl tw)))))) rfl)
    · have ht' := Bool.eq_false_iff.mpr ht
      rw [ht'] at tt
      rw [plc_other k (Bool.eq_false_iff.mpr hs) ht']
      cases hk0 : decide (k = 0) with
      | true =>
        rw [hk0] at tk
        exact sSeq_rt (sIf_ok (tOrF_ok tk (bif_t rfl rfl)) rfl)
      | false =>
        rw [hk0] at tk
        exact sSeq_rt (sIf_ok (tOrF_ok tk (bif_f rfl (tOrF_ok tt (bif_t rfl rfl)))) rfl)
end
end G03
/-! S1: things by their weight: what repr asks -/
namespace G03
open PySem PySem.Spec PyProof.Rows L2 Px PySem.Builtin PySem.Builtin.Str
inductive Gm (m : Nat) : PyData → Prop
  | atom {d : PyData} : Atom m d → Gm m d
  | lst {ds : List PyData} : (∀ d ∈ ds, Gm m d) → Gm m (.list ds)
  | tup {ds : List PyData} : (∀ d ∈ ds, Gm m d) → Gm m (.tuple ds)
mutual
def wt : PyData → Nat
  | .list ds => 3 + wts ds
  | .tuple ds => 3 + wts ds
  | _ => 700
def wts : List PyData → Nat
  | [] => 0
  | d :: ds => wt d + 2 + wts ds
end
theorem wt_tup (ds : List PyData) : wt (.tuple ds) = 3 + wts ds := by simp only [wt]
theorem wt_lst (ds : List PyData) : wt (.list ds) = 3 + wts ds := by simp only [wt]
theorem wt_atom {m : Nat} {d : PyData} (h : Atom m d) : wt d = 700 := by
  cases d with
  | list _ => exact h.elim
  | tuple _ => exact h.elim
  | _ => simp only [wt]
theorem Gm.items {m : Nat} {ds : List PyData} (h : Gm m (.tuple ds)) : ∀ d ∈ ds, Gm m d := by
  cases h with
  | atom a => exact a.elim
  | tup h => exact h
theorem Gm.mono {m k : Nat} (h : m ≤ k) {d : PyData} (g : Gm m d) : Gm k d := by
  induction g with
  | atom a => exact .atom (Atom.mono h a)
  | lst _ ih => exact .lst ih
  | tup _ ih => exact .tup ih
theorem Gm.of_sz {m : Nat} : ∀ {n : Nat} {d : PyData}, Sz m n d → Gm m d
  | 0, d, h => .atom h
  | n + 1, d, h => by
    rcases h with h | ⟨ds, e, _, q⟩
    · exact .atom h
    · rcases e with rfl | rfl
      · exact .lst fun x hx => Gm.of_sz (q x hx)
      · exact .tup fun x hx => Gm.of_sz (q x hx)
theorem Gm.gen {m : Nat} {d : PyData} (g : Gm m d) : Gen d := by
  induction g with
  | @atom d a =>
    cases d with
    | none => exact .none
    | bool b => exact .bool b
    | int i => exact .int i
    | str s => exact .str s a.2
    | list _ => exact a.elim
    | tuple _ => exact a.elim
    | dict l =>
      cases l with
      | nil => exact .dict
      | cons _ _ => exact a.elim
  | lst _ ih => exact .list _ ih
  | tup _ ih => exact .tuple _ ih
theorem jn_len : ∀ L : List (List Nat), (jn L).length ≤ (L.map fun x => x.length + 2).sum
  | [] => by simp [jn]
  | [x] => by simp [jn]
  | x :: y :: r => by
    have := jn_len (y :: r)
    simp only [jn, List.length_append, List.length_cons, List.map_cons, List.sum_cons] at *
    omega
theorem sum_le : ∀ ds : List PyData, (∀ d ∈ ds, (Zt d).length ≤ wt d) → ((ds.map Zt).map fun x => x.length + 2).sum ≤ wts ds
  | [], _ => by simp [wts]
  | d :: ds, h => by
    have h1 := h d List.mem_cons_self
    have h2 := sum_le ds fun e he => h e (List.mem_cons_of_mem _ he)
    simp only [List.map_cons, List.sum_cons, wts] at *
    omega
theorem Zt_list (ds : List PyData) : Zt (.list ds) = 91 :: (jn (ds.map Zt) ++ [93]) := by
  unfold Zt
  rw [PyData.shown_list, cps_toList_append, cps_toList_append, join_jn, shownAll_map]
  have e : (Str.ofString "[").cps.toList = [91] := by decide
  rw [e]
  rfl
theorem Zt_len (d : PyData) : (Zt d).length = d.shown.length := by unfold Zt; exact Array.length_toList
theorem Gm.len {m : Nat} (hm : m ≤ 2) {d : PyData} (g : Gm m d) : (Zt d).length ≤ wt d := by
  induction g with
  | @atom d a =>
    rw [Zt_len, wt_atom a]
    exact (atom_told hm 0 a).len
  | @lst ds _ ih =>
    rw [Zt_list, wt_lst]
    have h1 := jn_len (ds.map Zt)
    have h2 := sum_le ds ih
    simp only [List.length_cons, List.length_append, List.length_nil]
    omega
  | @tup ds _ ih =>
    rw [Zt_tuple, wt_tup]
    have h1 := jn_len (ds.map Zt)
    have h2 := sum_le ds ih
    simp only [List.length_cons, List.length_append]
    split <;> simp only [List.length_cons, List.length_nil] <;> omega
theorem jn_ok : ∀ L : List (List Nat), (∀ x ∈ L, ∀ c ∈ x, c < 0x110000) → ∀ c ∈ jn L, c < 0x110000
  | [], _ => fun c h => nomatch h
  | [x], h => h x List.mem_cons_self
  | x :: y :: r, h => fun c hc => by
    simp only [jn, List.mem_append, List.mem_cons] at hc
    rcases hc with hc | rfl | rfl | hc
    · exact h x List.mem_cons_self c hc
    · decide
    · decide
    · exact jn_ok (y :: r) (fun z hz => h z (List.mem_cons_of_mem _ hz)) c hc
theorem Gm.ok {m : Nat} (hm : m ≤ 2) {d : PyData} (g : Gm m d) : ∀ c ∈ Zt d, c < 0x110000 := by
  induction g with
  | @atom d a =>
    have := (atom_told hm 0 a).ok
    rw [strOk_iff] at this
    exact this
  | @lst ds _ ih =>
    rw [Zt_list]
    intro c hc
    rw [List.mem_cons, List.mem_append] at hc
    rcases hc with rfl | hc | hc
    · decide
    · exact jn_ok _ (fun x hx => by obtain ⟨e, he, rfl⟩ := List.mem_map.mp hx; exact ih e he) c hc
    · rw [List.mem_singleton.mp hc]; decide
  | @tup ds _ ih =>
    rw [Zt_tuple]
    intro c hc
    rw [List.mem_cons, List.mem_append] at hc
    rcases hc with rfl | hc | hc
    · decide
    · exact jn_ok _ (fun x hx => by obtain ⟨e, he, rfl⟩ := List.mem_map.mp hx; exact ih e he) c hc
    · split at hc
      · rcases List.mem_cons.mp hc with rfl | hc
        · decide
        · rw [List.mem_singleton.mp hc]; decide
      · rw [List.mem_singleton.mp hc]; decide
theorem Gm.show' {m : Nat} (hm : m ≤ 2) {d : PyData} (g : Gm m d) : d.showable = true := by
  induction g with
  | @atom d a => exact (atom_told hm 0 a).show'
  | @lst ds _ ih => simp only [PyData.showable]; exact showAll_of ih
  | @tup ds _ ih => simp only [PyData.showable]; exact showAll_of ih
/-- a thing of the law: of such parts, so heavy and so deep at most -/
structure Ok (m w D : Nat) (d : PyData) : Prop where
  g : Gm m d
  wt : wt d ≤ w
  deep : d.depth ≤ D
theorem Ok.mono {m w D m' w' D' : Nat} {d : PyData} (h : Ok m w D d) (a : m ≤ m') (b : w ≤ w') (c : D ≤ D') : Ok m' w' D' d := ⟨h.g.mono a, Nat.le_trans h.wt b, Nat.le_trans h.deep c⟩
theorem Ok.repr {m w D : Nat} {d : PyData} (hm : m ≤ 2) (hw : w ≤ 16777216) (hD : D ≤ 60) (h : Ok m w D d) : reprD [d] = some (.val (.str d.shown)) := by
  show (if d.showable = true ∧ d.shown.length ≤ Lim ∧ d.depth ≤ 60 ∧ PyData.strOk d.shown = true then some (OR.val (.str d.shown)) else none) = _
  have c1 : d.shown.length ≤ Lim := by
    rw [← Zt_len]
    exact Nat.le_trans (h.g.len hm) (Nat.le_trans h.wt hw)
  have c2 : PyData.strOk d.shown = true := by
    rw [strOk_iff]
    exact h.g.ok hm
  rw [if_pos ⟨h.g.show' hm, c1, Nat.le_trans h.deep hD, c2⟩]
theorem deep_tup {ds : List PyData} {D : Nat} (h : ∀ d ∈ ds, d.depth ≤ D) : (PyData.tuple ds).depth ≤ D + 1 := by
  rw [depth_tup]
  have := depthAll_of h
  omega
end G03
/-! S2: a thing spoilt, by its weight -/
namespace G03
open PySem PySem.Spec PyProof.Rows L2 Px PySem.Builtin PySem.Builtin.Str
/-- a tuple has so many parts at most -/
def Tl (N : Nat) (d : PyData) : Prop := ∀ es, d = .tuple es → es.length ≤ N
theorem Tl.mono {N M : Nat} {d : PyData} (h : Tl N d) (l : N ≤ M) : Tl M d := fun es e => Nat.le_trans (h es e) l
end G03
/-! S3: the atoms of a field as a list -/
namespace G03
open PySem PySem.Spec PyProof.Rows L2 Px PySem.Builtin PySem.Builtin.Str
def atomD (t : PyData) (us : List Int) : PyData := .tuple [t, .tuple (us.map .int)]
def AtomOk (n : Nat) (a : PyData) : Prop := ∃ t us, a = atomD t us ∧ VT 3 t ∧ 1 ≤ us.length ∧ us.length ≤ 2 ∧ ∀ u ∈ us, 0 ≤ u ∧ u < (n : Int)
section
variable {ps : List (Str × Int)} {X sh : List PyData} {n : Nat} {b : Bool}
end
/-! ### atoms are small, plain and nice -/
theorem nice_name {s : Str} (h : NameS s) : niceB (.str s) = true := by
  obtain ⟨l, rfl, _, _, hl⟩ := h
  unfold niceB
  rw [List.all_eq_true]
  intro c hc
  have hc' : c ∈ l := hc
  have : c ∈ abc := hl c hc'
  have all : abc.all (fun c => decide (97 ≤ c) && decide (c ≤ 122)) = true := by decide
  exact List.all_eq_true.mp all c this
theorem nice_word {w : Str} (h : w ∈ W6) : niceB (.str w) = true := by
  have all : W6.all (fun w => niceB (.str w)) = true := by decide +kernel
  exact List.all_eq_true.mp all w h
theorem niceBs_of : ∀ {ds : List PyData}, (∀ d ∈ ds, niceB d = true) → niceBs ds = true
  | [], _ => by simp [niceBs]
  | d :: ds, h => by
    unfold niceBs
    rw [h d List.mem_cons_self, niceBs_of fun e he => h e (List.mem_cons_of_mem _ he)]
    rfl
theorem plainBs_of : ∀ {ds : List PyData}, (∀ d ∈ ds, plainB d = true) → plainBs ds = true
  | [], _ => by simp [plainBs]
  | d :: ds, h => by
    unfold plainBs
    rw [h d List.mem_cons_self, plainBs_of fun e he => h e (List.mem_cons_of_mem _ he)]
    rfl
theorem nice_tup {ds : List PyData} (h : ∀ d ∈ ds, niceB d = true) : niceB (.tuple ds) = true := by unfold niceB; exact niceBs_of h
theorem plain_tup {ds : List PyData} (h : ∀ d ∈ ds, plainB d = true) : plainB (.tuple ds) = true := by unfold plainB; exact plainBs_of h
def WB : Nat → Nat
  | 0 => 700
  | k + 1 => 709 + 2 * WB k
theorem vt_small : ∀ {k : Nat} {d : PyData}, VT k d → niceB d = true ∧ plainB d = true ∧ wt d ≤ WB k
  | 0, _, ⟨s, e, h⟩ => by subst e; exact ⟨nice_name h.1, by simp [plainB], by simp [wt, WB]⟩
  | k + 1, d, h => by
    have w0 : ∀ k, 700 ≤ WB k := fun k => by induction k with
      | zero => exact Nat.le_refl _
      | succ k ih => show 700 ≤ 709 + 2 * WB k; omega
    rcases h with ⟨s, rfl, h⟩ | ⟨w, xs, rfl, hw, hl, hx⟩
    · exact ⟨nice_name h.1, by simp [plainB], by have := w0 (k + 1); simp only [wt]; exact this⟩
    · have ih : ∀ x ∈ xs, niceB x = true ∧ plainB x = true ∧ wt x ≤ WB k := fun x m => vt_small (hx x m)
      refine ⟨nice_tup fun x m => ?_, plain_tup fun x m => ?_, ?_⟩
      · rcases List.mem_cons.mp m with rfl | m
        · exact nice_word hw
        · exact (ih x m).1
      · rcases List.mem_cons.mp m with rfl | m
        · simp [plainB]
        · exact (ih x m).2.1
      · rw [wt_tup]
        have l2 : xs.length ≤ 2 := by rw [hl]; unfold ar; split <;> omega
        show 3 + wts (.str w :: xs) ≤ 709 + 2 * WB k
        simp only [wts, wt]
        match xs, l2, ih with
        | [], _, _ => simp [wts]; omega
        | [x], _, ih => have := (ih x (by simp)).2.2; have := w0 k; simp only [wts]; omega
        | [x, y], _, ih => have := (ih x (by simp)).2.2; have := (ih y (by simp)).2.2; simp only [wts]; omega
        | x :: y :: z :: r, l, _ => simp at l
theorem wts_ints : ∀ us : List Int, wts (us.map .int) = 702 * us.length
  | [] => rfl
  | u :: us => by
    simp only [List.map_cons, wts, wt, wts_ints us, List.length_cons]
    omega
theorem AtomOk.small {n : Nat} (hn : n ≤ 4) {a : PyData} (h : AtomOk n a) : niceB a = true ∧ plainB a = true ∧ Ok 0 12000 5 a := by
  obtain ⟨t, us, rfl, ht, h1, h2, h3⟩ := h
  obtain ⟨t1, t2, t3⟩ := vt_small ht
  have t4 : wt t ≤ 10563 := t3
  have td := (vt_ok ht).2
  refine ⟨nice_tup fun x m => ?_, plain_tup fun x m => ?_, ⟨.tup fun x m => ?_, ?_, deep_tup fun x m => ?_⟩⟩
  · rcases List.mem_cons.mp m with rfl | m
    · exact t1
    · rw [List.mem_singleton.mp m]
      refine nice_tup fun y my => ?_
      obtain ⟨u, hu, rfl⟩ := List.mem_map.mp my
      have := h3 u hu
      unfold niceB
      rw [Bool.and_eq_true, decide_eq_true_eq, decide_eq_true_eq]
      omega
  · rcases List.mem_cons.mp m with rfl | m
    · exact t2
    · rw [List.mem_singleton.mp m]
      refine plain_tup fun y my => ?_
      obtain ⟨u, hu, rfl⟩ := List.mem_map.mp my
      simp [plainB]
  · rcases List.mem_cons.mp m with rfl | m
    · exact Gm.of_sz (vt_sz0 (Nat.le_refl 3) ht)
    · rw [List.mem_singleton.mp m]
      refine .tup fun y my => ?_
      obtain ⟨u, hu, rfl⟩ := List.mem_map.mp my
      have := h3 u hu
      exact .atom (show u.natAbs ≤ _ by omega)
  · rw [atomD, wt_tup]
    simp only [wts, wt, wts_ints]
    omega
  · rcases List.mem_cons.mp m with rfl | m
    · omega
    · rw [List.mem_singleton.mp m]
      have : (PyData.tuple (us.map .int)).depth ≤ 0 + 1 := deep_tup fun y my => by
        obtain ⟨u, hu, rfl⟩ := List.mem_map.mp my
        simp only [PyData.depth]; omega
      omega
end G03
/-! P1: numbers, names, notions, as the program looks at them -/
namespace G03
open PySem PySem.Spec PyProof.Rows L2 Px
theorem num_in (i l m : Int) : d_is_number_in [.val (.int i), .val (.int l), .val (.int m)] = .rt (.bool (decide (l ≤ i) && decide (i ≤ m))) [] := by
  apply runD_rt (st := [])
  unfold g_is_number_in
  refine sRet_ok (e1 := .val (.bool (decide (l ≤ i) && decide (i ≤ m)))) (st1 := []) ?_ rfl
  refine eAnd_ok (k := true) (st1 := []) rfl (bif_t rfl (eOfT_ok (t3_ok rfl rfl rfl rfl rfl rfl ?_)))
  cases decide (l ≤ i) <;> rfl
theorem abc_low : ∀ c ∈ abc, decide (c < 128) = true := by decide
theorem abc_alpha : ∀ c ∈ abc, Unicode.isAlpha c = true := by decide +kernel
theorem abc_lower : ∀ c ∈ abc, (Unicode.isLower c = true ∧ (Unicode.isUpper c || Unicode.isTitle c) = false) := by decide +kernel
theorem tell_name {s : Str} (h : NameS s) : Txt.isascii s = true ∧ Txt.isalpha s = true ∧ Txt.islower s = true := by
  obtain ⟨l, rfl, h1, _, ha⟩ := h
  have e : (tx l).cps.toList = l := by simp [tx]
  refine ⟨?_, ?_, ?_⟩
  · unfold Txt.isascii
    rw [← Array.all_toList, e, List.all_eq_true]
    exact fun c hc => abc_low c (ha c hc)
  · unfold Txt.isalpha
    rw [← Array.all_toList, e, Bool.and_eq_true, List.all_eq_true, tx_len, decide_eq_true_eq]
    exact ⟨by omega, fun c hc => abc_alpha c (ha c hc)⟩
  · unfold Txt.islower
    rw [← Array.any_toList, ← Array.any_toList, e, Bool.and_eq_true, List.any_eq_true, Bool.not_eq_true', List.any_eq_false]
    constructor
    · cases l with
      | nil => simp at h1
      | cons c l => exact ⟨c, List.mem_cons_self, (abc_lower c (ha c List.mem_cons_self)).1⟩
    · intro c hc
      rw [(abc_lower c (ha c hc)).2]
      exact Bool.false_ne_true
theorem is_name_ok {s : Str} (h : NameS s) (hw : s ∉ W6) : d_is_name [.val (.str s)] = .rt (.bool true) [] := by
  obtain ⟨t1, t2', t3'⟩ := tell_name h
  have hl : s.length ≤ 8 := by
    obtain ⟨l, rfl, _, h8, _⟩ := h
    rw [tx_len]
    exact h8
  apply runD_rt (st := [])
  unfold g_is_name
  have le : un lenD (aCons (eName 0) aNil) [.val (.str s)] [] = .ok (.val (.int s.length)) [] := by
    refine un_ok (r := .val (.int s.length)) (es := [.val (.str s)]) (ds := [.str s]) rfl rfl ?_
    show (if s.length ≤ Lim then some (OR.val (.int s.length)) else none) = _
    rw [if_pos (by unfold Lim; omega)]
  have c1 : t2 gtD (un lenD (aCons (eName 0) aNil)) (eD k_MOST_LETTERS) [.val (.str s)] [] = .ok false [] := by
    refine t2_ok (k := false) le rfl rfl rfl ?_
    show some (decide ((s.length : Int) > 8)) = _
    rw [decide_eq_false (by omega)]
  have c2 : t2 inD (eName 0) (eD k_WORDS) [.val (.str s)] [] = .ok false [] := by
    refine t2_ok (k := false) (e1 := .val (.str s)) (e2 := .val k_WORDS) rfl rfl rfl rfl ?_
    show inD (.str s) (.tuple (W6.map .str)) = _
    rw [in_strsT, decide_eq_false hw]
  refine sSeq_ok (sIf_ok (tOrF_ok (k := false) rfl (bif_f rfl (tOrF_ok c1 (bif_f rfl c2)))) rfl) ?_
  refine sRet_ok (e1 := .val (.bool true)) (st1 := []) ?_ rfl
  refine eAnd_ok (k := true) (st1 := []) (u1_ok (r := .val (.bool true)) (a := .str s) rfl rfl (by show some (OR.val (.bool (Txt.isascii s))) = _; rw [t1])) (bif_t rfl ?_)
  exact eAnd_ok (k := true) (st1 := []) (u1_ok (r := .val (.bool true)) (a := .str s) rfl rfl (by show some (OR.val (.bool (Txt.isalpha s))) = _; rw [t2'])) (bif_t rfl (u1_ok (r := .val (.bool true)) (a := .str s) rfl rfl (by show some (OR.val (.bool (Txt.islower s))) = _; rw [t3'])))
/-- the names that came so far -/
def seen (ps : List (Str × Int)) : List (PyData × PyData) := ps.map fun q => (.str q.1, .bool true)
theorem put_new {s : Str} {v : PyData} {kvs : List (PyData × PyData)} (h : hasD (.inr s) kvs = false) : putD (.inr s) v kvs = kvs ++ [(.str s, v)] := by
  unfold putD
  rw [h]
  rfl
theorem has_seen (s : Str) (ps : List (Str × Int)) : hasD (.inr s) (seen ps) = decide (s ∈ ps.map (·.1)) := by
  have := has_kv s ps
  unfold seen
  rw [← this]
  clear this
  unfold hasD
  induction ps with
  | nil => rfl
  | cons p r ih =>
    rw [List.map_cons, List.map_cons, List.any_cons, List.any_cons, ih]
    rfl
abbrev nBody : FS := (sSeq (sIf (tOrF (tst (u1 (tyNotD "tuple") (eName 2))) (tOrF (t2 neE (un lenD (aCons (eName 2) aNil)) (eD (.int 2))) (tNotF (tst (eCall d_is_name [false] (aCons (u2 ixD (eName 2) (eD (.int 0))) aNil))))))
    (sRet (eD (.bool false)))
    sNext)
    (sSeq (sIf (tNotF (tst (eCall d_is_number_in [false, false, false] (aCons (u2 ixD (eName 2) (eD (.int 1))) (aCons (eD (.int 1)) (aCons (eD k_MOST_PLACES) aNil))))))
    (sRet (eD (.bool false)))
    sNext)
    (sSetKey (eD (.bool true)) (eName 1) (u2 ixD (eName 2) (eD (.int 0))))))
theorem nLoop {a : Sl} : ∀ (r acc : List (Str × Int)) (x : Sl), (∀ p ∈ r, NotP p ∧ p.1 ∉ W6) → ((acc ++ r).map (·.1)).Nodup → acc.length + r.length ≤ 100 →
    ∃ x', sFor (gN 2) nBody (r.map nd) [a, .ref 0, x] [.live (.dic (seen acc))] = .nx [a, .ref 0, x'] [.live (.dic (seen (acc ++ r)))]
  | [], acc, x, _, _, _ => ⟨x, by rw [List.append_nil]; rfl⟩
  | p :: r, acc, x, h, hn, hl => by
    rw [List.length_cons] at hl
    obtain ⟨h1, h2⟩ := h p List.mem_cons_self
    have hnew : p.1 ∉ acc.map (·.1) := by
      rw [List.map_append, List.nodup_append] at hn
      exact fun z => hn.2.2 p.1 z p.1 List.mem_cons_self rfl
    obtain ⟨x', e⟩ := nLoop (a := a) r (acc ++ [p]) (.val (nd p)) (fun q hq => h q (List.mem_cons_of_mem _ hq)) (by rw [List.append_assoc]; exact hn) (by rw [List.length_append]; show acc.length + 1 + r.length ≤ 100; omega)
    refine ⟨x', sFor_cons (sl1 := [a, .ref 0, .val (nd p)]) (sl2 := [a, .ref 0, .val (nd p)]) (st2 := [.live (.dic (seen (acc ++ [p])))]) rfl ?_ (by rw [e, List.append_assoc]; rfl)⟩
    have i0 : u2 ixD (eName 2) (eD (.int 0)) [a, .ref 0, .val (nd p)] [.live (.dic (seen acc))] = .ok (.val (.str p.1)) [.live (.dic (seen acc))] := rfl
    have i1 : u2 ixD (eName 2) (eD (.int 1)) [a, .ref 0, .val (nd p)] [.live (.dic (seen acc))] = .ok (.val (.int p.2)) [.live (.dic (seen acc))] := rfl
    have nm := is_name_ok h1.1 h2
    have pl : (decide ((1 : Int) ≤ p.2) && decide (p.2 ≤ 2)) = true := by
      rcases h1.2 with z | z <;> rw [z] <;> rfl
    refine sSeq_ok (sIf_ok (tOrF_ok (k := false) rfl (bif_f rfl (tOrF_ok (k := false) rfl (bif_f rfl (tNotF_ok (k := true) (tst_ok (call1_val (a := .str p.1) i0 nm))))))) rfl) ?_
    refine sSeq_ok (sIf_ok (tNotF_ok (k := true) (tst_ok (call3_val (a := .int p.2) (b := .int 1) (c := .int 2) i1 rfl rfl (by rw [num_in, pl])))) rfl) ?_
    unfold sSetKey
    show (match u2 ixD (eName 2) (eD (.int 0)) [a, .ref 0, .val (nd p)] [.live (.dic (seen acc))] with
        | .ok (.val (.str k)) st4 => match dicAt st4 0 with
          | none => .fail
          | some kvs => if kvs.length < Lim then .nx [a, .ref 0, .val (nd p)] (putAt st4 0 (.dic (putD (.inr k) (.bool true) kvs))) else .fail
        | _ => .fail : RS) = _
    rw [i0]
    show (if (seen acc).length < Lim then RS.nx [a, .ref 0, .val (nd p)] [.live (.dic (putD (.inr p.1) (.bool true) (seen acc)))] else .fail) = _
    rw [if_pos (by unfold seen; rw [List.length_map]; unfold Lim; omega), put_new (by rw [has_seen, decide_eq_false hnew])]
    unfold seen
    rw [List.map_append]
    rfl
theorem is_nt {ps : List (Str × Int)} (hn : Nt ps) : d_is_notions [.val (nt ps)] = .rt (.bool true) [] := by
  have h3 := hn.three
  have h1 := hn.one
  obtain ⟨x', e⟩ := nLoop (a := .val (nt ps)) ps [] .non (fun p hp => ⟨hn.each p hp, hn.noword (List.mem_map_of_mem hp)⟩) (by simpa using hn.names) (by simp; omega)
  rw [List.nil_append] at e
  apply runD_rt (st := [.live (.dic (seen ps))])
  show g_is_notions [.val (nt ps), .non, .non] [] = _
  unfold g_is_notions
  have len : un lenD (aCons (eName 0) aNil) [.val (nt ps), .non, .non] [] = .ok (.val (.int ps.length)) [] := un_ok (r := .val (.int ps.length)) (es := [.val (nt ps)]) (ds := [nt ps]) rfl rfl (by show some (OR.val (.int ((ps.map nd).length : Nat))) = _; rw [List.length_map])
  have c3 : t3 leD leD (eD (.int 1)) (un lenD (aCons (eName 0) aNil)) (eD k_MOST_NOTIONS) [.val (nt ps), .non, .non] [] = .ok true [] := by
    have r := t3_ok (c1 := leD) (c2 := leD) (f1 := eD (.int 1)) (f3 := eD k_MOST_NOTIONS) (x := true) (y := true) (st := []) rfl len rfl (by show some (decide ((1 : Int) ≤ ps.length)) = _; rw [decide_eq_true (by omega)]) rfl rfl (by show some (decide ((ps.length : Int) ≤ 3)) = _; rw [decide_eq_true (by omega)])
    exact r
  refine sSeq_ok (sIf_ok (tOrF_ok (k := false) rfl (bif_f rfl (tNotF_ok (k := true) c3))) rfl) ?_
  refine sSeq_ok (sl1 := [.val (nt ps), .ref 0, .non]) (st1 := [.live (.dic (seen []))]) rfl ?_
  refine sSeq_ok (sForI_ok (ds := ps.map nd) (st1 := [.live (.dic (seen []))]) (iSeq_tup (e1 := .val (nt ps)) rfl rfl) e) ?_
  refine sRet_ok (e1 := .val (.bool true)) (st1 := [.live (.dic (seen ps))]) ?_ rfl
  refine u2_ok (r := .val (.bool true)) (e1 := .val (.int (ps.length : Nat))) (e2 := .val (.int (ps.length : Nat))) (st1 := [.live (.dic (seen ps))]) ?_ ?_ rfl rfl ?_
  · refine un_ok (r := .val (.int ps.length)) (es := [.bor 0]) (ds := [.dict (seen ps)]) rfl rfl ?_
    show some (OR.val (.int ((seen ps).length : Nat))) = _
    unfold seen
    rw [List.length_map]
  · exact un_ok (r := .val (.int ps.length)) (es := [.val (nt ps)]) (ds := [nt ps]) rfl rfl (by show some (OR.val (.int ((ps.map nd).length : Nat))) = _; rw [List.length_map])
  · show (eqE (.int ps.length) (.int ps.length)).map (fun c => OR.val (.bool c)) = _
    rw [eq_len, decide_eq_true rfl]
    rfl
end G03
/-! P2: what enter_term writes: terms by their texts, with their places -/
namespace G03
open PySem PySem.Spec PyProof.Rows L2 Px
section
variable {f : PyData → PyData}
/-- terms by their texts, with what f tells of each -/
def dn (f : PyData → PyData) (E : List PyData) : List (PyData × PyData) := E.map fun e => (.str (T3 e), f e)
theorem has_dn (t : Str) (E : List PyData) : hasD (.inr t) (dn f E) = decide (t ∈ E.map T3) := by
  rw [← has_dm t E]
  unfold hasD dn dm
  induction E with
  | nil => rfl
  | cons p r ih =>
    rw [List.map_cons, List.map_cons, List.any_cons, List.any_cons, ih]
theorem rep_dn {p : PyData} : ∀ {E : List PyData}, (∀ e ∈ E, T3 e = T3 p → e = p) → repD (.inr (T3 p)) (f p) (dn f E) = dn f E
  | [], _ => rfl
  | e :: E, h => by
    show (if (some (Sum.inr (T3 e)) : Option Key) = some (.inr (T3 p)) then (PyData.str (T3 e), f p) else (PyData.str (T3 e), f e)) :: repD (.inr (T3 p)) (f p) (dn f E) = (PyData.str (T3 e), f e) :: dn f E
    rw [rep_dn fun x hx => h x (List.mem_cons_of_mem _ hx)]
    by_cases q : T3 e = T3 p
    · rw [if_pos (by rw [q]), h e List.mem_cons_self q]
    · rw [if_neg (fun z => q (Sum.inr.inj (Option.some.inj z)))]
theorem put_dn {E : List PyData} {p : PyData} (h : Ew E) (hp : VT 3 p) : putD (.inr (T3 p)) (f p) (dn f E) = dn f (addE E p) := by
  unfold putD addE
  rw [has_dn]
  by_cases m : T3 p ∈ E.map T3
  · rw [decide_eq_true m, if_pos rfl, if_pos m]
    exact rep_dn fun e he q => T3_inj (h.each e he) hp q
  · rw [decide_eq_false m, if_neg Bool.false_ne_true, if_neg m]
    unfold dn
    rw [List.map_append]
    rfl
theorem val_dn {e : PyData} : ∀ {E : List PyData}, Ew E → e ∈ E → valD (.inr (T3 e)) (dn f E) = some (f e)
  | [], _, m => nomatch m
  | x :: E, h, m => by
    show (if (some (Sum.inr (T3 x)) : Option Key) = some (.inr (T3 e)) then some (f x) else valD (.inr (T3 e)) (dn f E)) = _
    have he : VT 3 e := h.each e m
    by_cases q : T3 x = T3 e
    · rw [if_pos (by rw [q]), T3_inj (h.each x List.mem_cons_self) he q]
    · rw [if_neg (fun z => q (Sum.inr.inj (Option.some.inj z)))]
      refine val_dn ⟨(List.nodup_cons.mp (by simpa using h.nodup)).2, fun y hy => h.each y (List.mem_cons_of_mem _ hy)⟩ ?_
      rcases List.mem_cons.mp m with z | z
      · rw [z] at q; exact absurd rfl q
      · exact z
theorem keys_dn : ∀ E : List PyData, keysL (dn f E) = some (E.map T3)
  | [] => rfl
  | e :: E => by
    show (match keysL (dn f E) with
      | some l => some (T3 e :: l)
      | none => none) = _
    rw [keys_dn E]
    rfl
theorem len_dn (E : List PyData) : (dn f E).length = E.length := by unfold dn; rw [List.length_map]
end
/-! ### texts -/
theorem chs_up : ∀ (k : Nat) (d : PyData), VT k d → chs (k + 1) d = chs k d
  | 0, _, ⟨s, e, _⟩ => by subst e; rw [chs_str, chs_str]
  | k + 1, d, h => by
    rcases h with ⟨s, rfl, h⟩ | ⟨w, xs, rfl, hw, hl, hx⟩
    · rw [chs_str, chs_str]
    · show jl (w.cps.toList :: xs.map (chs (k + 1))) = jl (w.cps.toList :: xs.map (chs k))
      rw [List.map_congr_left fun x m => chs_up k x (hx x m)]
theorem T3_of {k : Nat} {d : PyData} (hk : k ≤ 3) (h : VT k d) : T3 d = tx (chs k d) := by
  unfold T3
  have go : ∀ j, k ≤ j → chs j d = chs k d := fun j hj => by
    induction j with
    | zero => have : k = 0 := by omega
              subst this; rfl
    | succ j ih =>
      by_cases e : k = j + 1
      · subst e; rfl
      · rw [chs_up j d (h.mono (by omega)), ih (by omega)]
  rw [go 3 hk]
theorem W6_ne : ∀ w ∈ W6, 1 ≤ w.cps.toList.length := by decide +kernel
theorem chs_ne : ∀ (k : Nat) (d : PyData), VT k d → 1 ≤ (chs k d).length
  | 0, _, ⟨s, e, h⟩ => by
    subst e
    rw [chs_str]
    obtain ⟨l, rfl, h1, _⟩ := h.1
    simpa [tx] using h1
  | k + 1, d, h => by
    rcases h with ⟨s, rfl, h⟩ | ⟨w, xs, rfl, hw, hl, hx⟩
    · rw [chs_str]
      obtain ⟨l, rfl, h1, _⟩ := h.1
      simpa [tx] using h1
    · have := W6_ne w hw
      rcases two_shapes hl.symm.symm with ⟨_, x, rfl⟩ | ⟨_, x, y, rfl⟩
      · rw [chs_one, List.length_append]; omega
      · rw [chs_two, List.length_append]; omega
theorem T3_ne {d : PyData} (h : VT 3 d) : T3 d ≠ "" := fun e => by
  have h1 := chs_ne 3 d h
  have h2 : (T3 d).cps.toList = chs 3 d := by simp [T3, tx]
  rw [e] at h2
  rw [← h2] at h1
  exact absurd h1 (by decide)
theorem T3_len {d : PyData} (h : VT 3 d) : (T3 d).length ≤ 1000 := by
  unfold T3
  rw [tx_len]
  exact Nat.le_trans (chs_len 3 d h) (TL_le (by omega))
/-! ### words -/
theorem one_ok {w : Str} (hw : w ∈ W6) (p : Int) (hp : p = 1 ∨ p = 2) (ha : ar w = 1) : d_places_of_one [.val (.str w), .val (.int p)] = .rt (.int (wordP (.str w) [p])) [] := by
  have all : ∀ w ∈ W6, ar w = 1 → (d_places_of_one [.val (.str w), .val (.int 1)] = .rt (.int (wordP (.str w) [1])) [] ∧ d_places_of_one [.val (.str w), .val (.int 2)] = .rt (.int (wordP (.str w) [2])) []) := by
    intro w hw ha
    simp only [W6, List.mem_cons, List.not_mem_nil, or_false] at hw
    rcases hw with rfl | rfl | rfl | rfl | rfl | rfl
    · exact ⟨rfl, rfl⟩
    · exact absurd ha (by decide)
    · exact absurd ha (by decide)
    · exact ⟨rfl, rfl⟩
    · exact absurd ha (by decide)
    · exact ⟨rfl, rfl⟩
  rcases hp with rfl | rfl
  · exact (all w hw ha).1
  · exact (all w hw ha).2
theorem two_ok {w : Str} (hw : w ∈ W6) (p q : Int) (hp : p = 1 ∨ p = 2) (hq : q = 1 ∨ q = 2) (ha : ar w = 2) : d_places_of_two [.val (.str w), .val (.int p), .val (.int q)] = .rt (.int (wordP (.str w) [p, q])) [] := by
  have all : ∀ w ∈ W6, ar w = 2 → ((d_places_of_two [.val (.str w), .val (.int 1), .val (.int 1)] = .rt (.int (wordP (.str w) [1, 1])) [] ∧ d_places_of_two [.val (.str w), .val (.int 2), .val (.int 2)] = .rt (.int (wordP (.str w) [2, 2])) []) ∧
      (d_places_of_two [.val (.str w), .val (.int 1), .val (.int 2)] = .rt (.int (wordP (.str w) [1, 2])) [] ∧ d_places_of_two [.val (.str w), .val (.int 2), .val (.int 1)] = .rt (.int (wordP (.str w) [2, 1])) [])) := by
    intro w hw ha
    simp only [W6, List.mem_cons, List.not_mem_nil, or_false] at hw
    rcases hw with rfl | rfl | rfl | rfl | rfl | rfl
    · exact absurd ha (by decide)
    · exact ⟨⟨rfl, rfl⟩, rfl, rfl⟩
    · exact ⟨⟨rfl, rfl⟩, rfl, rfl⟩
    · exact absurd ha (by decide)
    · exact ⟨⟨rfl, rfl⟩, rfl, rfl⟩
    · exact absurd ha (by decide)
  have a := all w hw ha
  rcases hp with rfl | rfl <;> rcases hq with rfl | rfl
  · exact a.1.1
  · exact a.2.1
  · exact a.2.2
  · exact a.1.2
end G03
/-! P3: enter_term at a term -/
namespace G03
open PySem PySem.Spec PyProof.Rows L2 Px
/-- a term and its places -/
def tp (ps : List (Str × Int)) (t : PyData) : PyData := .tuple [t, .int (plc ps 3 t)]
abbrev en (ps : List (Str × Int)) (E : List PyData) : List (PyData × PyData) := dn (tp ps) E
abbrev esl (nm d k : PyData) (a b c : Sl) : Sls := [.val nm, .ref 0, .val d, .val k, a, b, c]
section
variable {ps : List (Str × Int)} (hn : Nt ps)
include hn
theorem plc_12 {k : Nat} {d : PyData} (h : 0 < plc ps k d) : plc ps k d = 1 ∨ plc ps k d = 2 := by
  have := (plc_rng hn.places k d).2
  omega
theorem plc3 {k : Nat} {d : PyData} (hk : k ≤ 3) (h : 0 < plc ps k d) : plc ps 3 d = plc ps k d := by
  have := plc_mono hn h (3 - k)
  rwa [show k + (3 - k) = 3 by omega] at this
/-- found[text] = (thing, places) -/
theorem put_ev {fv fk : FE} {sl : Sls} {E : List PyData} {p : PyData} (h1 : sl[1]? = some (.ref 0)) (hv : fv sl [.io (.dic (en ps E))] = .ok (.val (tp ps p)) [.io (.dic (en ps E))]) (hk : fk sl [.io (.dic (en ps E))] = .ok (.val (.str (T3 p))) [.io (.dic (en ps E))]) (hE : Ew E) (hp : VT 3 p) (hl : E.length ≤ 1000) :
    sSetKey fv (eName 1) fk sl [.io (.dic (en ps E))] = .nx sl [.io (.dic (en ps (addE E p)))] := by
  have n1 : eName 1 sl [.io (.dic (en ps E))] = .ok (.bor 0) [.io (.dic (en ps E))] := by unfold eName; rw [h1]
  unfold sSetKey
  rw [hv]
  show (match eName 1 sl [.io (.dic (en ps E))] with
      | .ok (.bor n) st3 => match fk sl st3 with
        | .ok (.val (.str k)) st4 => match dicAt st4 n with
          | none => .fail
          | some kvs => if kvs.length < Lim then .nx sl (putAt st4 n (.dic (putD (.inr k) (tp ps p) kvs))) else .fail
        | _ => .fail
      | _ => .fail : RS) = _
  rw [n1]
  dsimp only
  rw [hk]
  show (if (en ps E).length < Lim then RS.nx sl [.io (.dic (putD (.inr (T3 p)) (tp ps p) (en ps E)))] else .fail) = _
  rw [if_pos (by rw [len_dn]; unfold Lim; omega), put_dn hE hp]
/-- found[text][1] -/
theorem pl_ev {sl : Sls} {E : List PyData} {x : PyData} {i : Nat} (h1 : sl[1]? = some (.ref 0)) (hi : sl[i]? = some (.val (.str (T3 x)))) (hE : Ew E) (hx : x ∈ E) : u2 ixD (u2 keyD2 (eName 1) (eName i)) (eD (.int 1)) sl [.io (.dic (en ps E))] = .ok (.val (.int (plc ps 3 x))) [.io (.dic (en ps E))] := by
  have k : u2 keyD2 (eName 1) (eName i) sl [.io (.dic (en ps E))] = .ok (.val (tp ps x)) [.io (.dic (en ps E))] := by
    refine u2_ok (r := .val (tp ps x)) (e1 := .bor 0) (e2 := .val (.str (T3 x))) (st1 := [.io (.dic (en ps E))]) (a := .dict (en ps E)) (b := .str (T3 x)) (by unfold eName; rw [h1]) (by unfold eName; rw [hi]) rfl rfl ?_
    show (valD (.inr (T3 x)) (en ps E)).map OR.val = _
    rw [val_dn hE hx]
    rfl
  exact u2_ok (r := .val (.int (plc ps 3 x))) k rfl rfl rfl rfl
/-- f'{a} {b}' -/
theorem join2_ev {f g : FE} {sl : Sls} {st : Sto} {a b : Str} (hf : f sl st = .ok (.val (.str a)) st) (hg : g sl st = .ok (.val (.str b)) st) (la : a.length ≤ 2000) (lb : b.length ≤ 2000) : (jCons (u1 fmtD f) (jCons (eD (.str " ")) (jCons (u1 fmtD g) jNil))) Str.empty sl st = .ok (.val (.str (Str.empty ++ a ++ " " ++ b))) st := by
  have u : ∀ {f : FE} {a : Str}, f sl st = .ok (.val (.str a)) st → a.length ≤ 2000 → u1 fmtD f sl st = .ok (.val (.str a)) st := fun {f a} hf la => by
    refine u1_ok (r := .val (.str a)) (a := .str a) hf rfl ?_
    show (if a.length ≤ Lim then some (OR.val (.str a)) else none) = _
    rw [if_pos (by unfold Lim; omega)]
  have ln : ∀ x y : Str, (x ++ y).length = x.length + y.length := fun x y => by
    rw [tx_of x, tx_of y, tx_app, tx_len, tx_len, tx_len, List.length_append]
  have l0 : Str.empty.length = 0 := rfl
  have l1 : (" " : Str).length = 1 := by decide
  unfold jCons
  rw [u hf la]
  show (if (Str.empty ++ a).length ≤ Lim then (jCons (eD (.str " ")) (jCons (u1 fmtD g) jNil)) (Str.empty ++ a) sl st else .fail) = _
  rw [if_pos (by rw [ln]; unfold Lim; omega)]
  unfold jCons
  show (if (Str.empty ++ a ++ " ").length ≤ Lim then (jCons (u1 fmtD g) jNil) (Str.empty ++ a ++ " ") sl st else .fail) = _
  rw [if_pos (by rw [ln, ln]; unfold Lim; omega)]
  unfold jCons
  rw [u hg lb]
  show (if (Str.empty ++ a ++ " " ++ b).length ≤ Lim then jNil (Str.empty ++ a ++ " " ++ b) sl st else .fail) = _
  rw [if_pos (by rw [ln, ln, ln]; unfold Lim; omega)]
  rfl
theorem glue (a b : List Nat) : Str.empty ++ tx a ++ " " ++ tx b = tx (a ++ 32 :: b) := by
  have e0 : Str.empty = tx [] := rfl
  have e1 : (" " : Str) = tx [32] := by decide +kernel
  rw [e0, e1, tx_app, tx_app, tx_app]
  simp
abbrev eTail : FS := (sSeq (sIf (t2 eqE (eName 5) (eD (.int 0)))
    (sRet (eD (.str "")))
    sNext)
    (sSeq (sSet false 4 ((jCons (u1 fmtD (u2 ixD (eName 2) (eD (.int 0)))) (jCons (eD (.str " ")) (jCons (u1 fmtD (eName 4)) jNil))) Str.empty))
    (sSeq (sSetKey (eTup (aCons (eName 2) (aCons (eName 5) aNil))) (eName 1) (eName 4))
    (sRet (eName 4)))))
theorem eTail_ok {nm kk : PyData} {w txt : Str} {xs E : List PyData} {z : Sl} (hw : w ∈ W6) (hv : VT 3 (.tuple (.str w :: xs))) (hp : plc ps 3 (.tuple (.str w :: xs)) = 1 ∨ plc ps 3 (.tuple (.str w :: xs)) = 2) (hE : Ew E) (hl : E.length ≤ 1000) (lt : txt.length ≤ 2000) (ht : Str.empty ++ w ++ " " ++ txt = T3 (.tuple (.str w :: xs))) :
    eTail (esl nm (.tuple (.str w :: xs)) kk (.val (.str txt)) (.val (.int (plc ps 3 (.tuple (.str w :: xs))))) z) [.io (.dic (en ps E))] = .rt (.str (T3 (.tuple (.str w :: xs)))) [.io (.dic (en ps (addE E (.tuple (.str w :: xs)))))] := by
  have c : t2 eqE (eName 5) (eD (.int 0)) (esl nm (.tuple (.str w :: xs)) kk (.val (.str txt)) (.val (.int (plc ps 3 (.tuple (.str w :: xs))))) z) [.io (.dic (en ps E))] = .ok false [.io (.dic (en ps E))] := by
    refine t2_ok (k := false) rfl rfl rfl rfl ?_
    rcases hp with e | e <;> rw [e] <;> rfl
  have lw : w.length ≤ 2000 := by
    have := W6_len w hw
    have e : w.length = w.cps.toList.length := by rw [Array.length_toList]; rfl
    omega
  unfold eTail
  refine sSeq_ok (sIf_ok c rfl) ?_
  refine sSeq_ok (sSet_ok (e1 := .val (.str (T3 (.tuple (.str w :: xs))))) (st1 := [.io (.dic (en ps E))]) (by rw [← ht]; exact join2_ev hn (head_ev rfl) rfl lw lt) rfl) ?_
  have tv : eTup (aCons (eName 2) (aCons (eName 5) aNil)) (esl nm (.tuple (.str w :: xs)) kk (.val (.str (T3 (.tuple (.str w :: xs))))) (.val (.int (plc ps 3 (.tuple (.str w :: xs))))) z) [.io (.dic (en ps E))] = .ok (.val (tp ps (.tuple (.str w :: xs)))) [.io (.dic (en ps E))] :=
    eTup_ok (es := [.val (.tuple (.str w :: xs)), .val (.int (plc ps 3 (.tuple (.str w :: xs))))]) (ds := [.tuple (.str w :: xs), .int (plc ps 3 (.tuple (.str w :: xs)))]) (st1 := [.io (.dic (en ps E))]) rfl rfl (by show 2 ≤ Lim; decide)
  refine sSeq_ok (put_ev hn rfl tv rfl hE hv hl) ?_
  rfl
theorem t_empty {x : PyData} (hx : VT 3 x) {f : FE} {sl : Sls} {st : Sto} (hf : f sl st = .ok (.val (.str (T3 x))) st) : t2 eqX f (eD (.str "")) sl st = .ok false st := by
  have := t_eqX (w := .str (T3 x)) "" hf
  rw [this]
  show Re.ok (decide (T3 x = "")) st = _
  rw [decide_eq_false (T3_ne hx)]
/-- enter_term told a part -/
theorem part_ev {n k : Nat} {d x : PyData} {E E1 : List PyData} {a b c : Sl} {j : Int} (hx : u2 ixD (eName 2) (eD (.int j)) (esl (.dict (ps.map kv)) d (.int (k + 1 : Nat)) a b c) [.io (.dic (en ps E))] = .ok (.val x) [.io (.dic (en ps E))]) (h : d_enter_term n [.val (.dict (ps.map kv)), .io (.dic (en ps E)), .val x, .val (.int k)] = .rt (.str (T3 x)) [.dic (en ps E1)]) :
    eCall (d_enter_term n) [false, true, false, false] (aCons (eName 0) (aCons (eName 1) (aCons (u2 ixD (eName 2) (eD (.int j))) (aCons (u2 subD (eName 3) (eD (.int 1))) aNil)))) (esl (.dict (ps.map kv)) d (.int (k + 1 : Nat)) a b c) [.io (.dic (en ps E))] = .ok (.val (.str (T3 x))) [.io (.dic (en ps E1))] := by
  have sb : u2 subD (eName 3) (eD (.int 1)) (esl (.dict (ps.map kv)) d (.int (k + 1 : Nat)) a b c) [.io (.dic (en ps E))] = .ok (.val (.int k)) [.io (.dic (en ps E))] := by
    refine u2_ok (r := .val (.int k)) rfl rfl rfl rfl ?_
    show some (OR.val (.int (((k + 1 : Nat) : Int) - 1))) = _
    rw [show (((k + 1 : Nat) : Int) - 1) = (k : Int) by omega]
  exact eCall_ok (es := [.val (.dict (ps.map kv)), .bor 0, .val x, .val (.int k)]) (rs := [.inl (.dict (ps.map kv)), .inr 0, .inl x, .inl (.int k)]) (as := [.val (.dict (ps.map kv)), .io (.dic (en ps E)), .val x, .val (.int k)]) (ns := [0]) (os := [.dic (en ps E1)]) (st1 := [.io (.dic (en ps E))]) (st2 := [.io (.dic (en ps E))])
    (aCons_ok (e1 := .val (.dict (ps.map kv))) (es := [.bor 0, .val x, .val (.int k)]) rfl (aCons_ok (e1 := .bor 0) (es := [.val x, .val (.int k)]) rfl (aCons_ok (e1 := .val x) (es := [.val (.int k)]) hx (aCons_ok (e1 := .val (.int k)) (es := []) sb rfl)))) rfl rfl (by decide) h rfl
theorem ent_ok : ∀ (k n : Nat) (d : PyData) (E : List PyData), k < n → k ≤ 3 → Ew E → E.length + 100 * k ≤ 900 → 0 < plc ps k d →
    ∃ E', d_enter_term n [.val (.dict (ps.map kv)), .io (.dic (en ps E)), .val d, .val (.int k)] = .rt (.str (T3 d)) [.dic (en ps E')] ∧ Ew E' ∧ (∀ y, y ∈ E' ↔ y ∈ E ∨ y ∈ pts 3 d) ∧ E'.length ≤ E.length + (pts 3 d).length ∧ d ∈ E'
  | _, 0, _, _, h, _, _, _, _ => absurd h (by omega)
  | k, n + 1, .str s, E, hk, hk3, hE, hl, hp => by
    have hv : VT 3 (.str s) := (vt_of hn k _ hp).mono hk3
    have lk : plc ps k (.str s) = look ps s := by cases k <;> rfl
    have l3 : plc ps 3 (.str s) = look ps s := rfl
    rw [lk] at hp
    have sm := look_pos hp
    have t3 : T3 (.str s) = s := by
      unfold T3
      rw [chs_str, ← tx_of]
    obtain ⟨a1, a2⟩ := hE.add hv
    refine ⟨addE E (.str s), ?_, a1, fun y => by rw [a2, pts_str]; simp, by rw [pts_str]; exact addE_len E _, (a2 _).mpr (.inr rfl)⟩
    rw [t3]
    show runD n_enter_term.length (g_enter_term (d_enter_term n)) _ = _
    apply runD_rt (st := [.io (.dic (en ps (addE E (.str s))))])
    show g_enter_term (d_enter_term n) (esl (.dict (ps.map kv)) (.str s) (.int k) .non .non .non) [.io (.dic (en ps E))] = _
    unfold g_enter_term
    refine sSeq_rt (sIf_ok (k := true) (st1 := [.io (.dic (en ps E))]) rfl (bif_t rfl ?_))
    have c : t2 notInK (eName 2) (eName 0) (esl (.dict (ps.map kv)) (.str s) (.int k) .non .non .non) [.io (.dic (en ps E))] = .ok false [.io (.dic (en ps E))] := by
      refine t2_ok (k := false) (a := .str s) (b := .dict (ps.map kv)) rfl rfl rfl rfl ?_
      show ((some (valD (.inr s) (ps.map kv)).isSome).map (!·)) = _
      rw [val_some sm]
      rfl
    refine sSeq_ok (sIf_ok c rfl) ?_
    have kx : u2 keyD2 (eName 0) (eName 2) (esl (.dict (ps.map kv)) (.str s) (.int k) .non .non .non) [.io (.dic (en ps E))] = .ok (.val (.int (look ps s))) [.io (.dic (en ps E))] := by
      refine u2_ok (r := .val (.int (look ps s))) (a := .dict (ps.map kv)) (b := .str s) rfl rfl rfl rfl ?_
      show (valD (.inr s) (ps.map kv)).map OR.val = _
      rw [val_some sm]
      rfl
    have tv : eTup (aCons (eName 2) (aCons (u2 keyD2 (eName 0) (eName 2)) aNil)) (esl (.dict (ps.map kv)) (.str s) (.int k) .non .non .non) [.io (.dic (en ps E))] = .ok (.val (tp ps (.str s))) [.io (.dic (en ps E))] :=
      eTup_ok (es := [.val (.str s), .val (.int (look ps s))]) (ds := [.str s, .int (look ps s)]) (st1 := [.io (.dic (en ps E))]) (aCons_ok (e1 := .val (.str s)) (es := [.val (.int (look ps s))]) rfl (aCons_ok (e1 := .val (.int (look ps s))) (es := []) kx rfl)) rfl (by show 2 ≤ Lim; decide)
    refine sSeq_ok (put_ev hn rfl tv (by rw [t3]; rfl) hE hv (by omega)) ?_
    rfl
  | 0, n + 1, .tuple _, _, _, _, _, _, hp => absurd hp (by show ¬ (0 : Int) < 0; omega)
  | k + 1, n + 1, .tuple [], _, _, _, _, _, hp => absurd hp (by show ¬ (0 : Int) < 0; omega)
  | k + 1, n + 1, .tuple (w0 :: xs), E, hk, hk3, hE, hl, hp => by
    have hv0 := vt_of hn (k + 1) _ hp
    have hv : VT 3 (.tuple (w0 :: xs)) := hv0.mono hk3
    have hp3 := plc3 hn hk3 hp
    have pe : plc ps (k + 1) (.tuple (w0 :: xs)) = wordP w0 (xs.map (plc ps k)) := rfl
    have h12 : plc ps 3 (.tuple (w0 :: xs)) = 1 ∨ plc ps 3 (.tuple (w0 :: xs)) = 2 := by
      rw [hp3]
      exact plc_12 hn hp
    rw [pe] at hp hp3
    obtain ⟨w, rfl, hw, hlen⟩ := wordP_pos hp
    rw [List.length_map] at hlen
    have hx := own_pos hn hp
    have hvx : ∀ x ∈ xs, VT 3 x := fun x m => (vt_of hn k x (hx x m)).mono (by omega)
    have px : ∀ x ∈ xs, plc ps 3 x = plc ps k x := fun x m => plc3 hn (by omega) (hx x m)
    have pt := (pts_tup hv).1
    show ∃ E', runD n_enter_term.length (g_enter_term (d_enter_term n)) _ = _ ∧ _
    rcases two_shapes hlen with ⟨ha, x, rfl⟩ | ⟨ha, x, y, rfl⟩
    · have mx : x ∈ [x] := List.mem_cons_self
      obtain ⟨E1, f1, g1, g2, g3, g4⟩ := ent_ok k n x E (by omega) (by omega) hE (by omega) (hx x mx)
      have p15 := (pts_len 3 x (hvx x mx)).2
      have pl3 : PL 3 = 15 := rfl
      obtain ⟨a1, a2⟩ := g1.add hv
      have hpl : wordP (.str w) [plc ps 3 x] = plc ps 3 (.tuple [.str w, x]) := by rw [hp3, px x mx]; rfl
      have tx3 : Str.empty ++ w ++ " " ++ T3 x = T3 (.tuple [.str w, x]) := by
        rw [T3_of hk3 hv0, T3_of (k := k) (by omega) (vt_of hn k x (hx x mx)), chs_one, tx_of w]
        rw [glue hn]
        simp [tx]
      refine ⟨addE E1 (.tuple [.str w, x]), ?_, a1, fun y => by rw [a2, g2, pt]; simp [or_assoc, or_comm], ?_, (a2 _).mpr (.inr rfl)⟩
      · apply runD_rt (st := [.io (.dic (en ps (addE E1 (.tuple [.str w, x]))))])
        show g_enter_term (d_enter_term n) (esl (.dict (ps.map kv)) (.tuple [.str w, x]) (.int (k + 1 : Nat)) .non .non .non) [.io (.dic (en ps E))] = _
        unfold g_enter_term
        have z0 : t2 eqE (eName 3) (eD (.int 0)) (esl (.dict (ps.map kv)) (.tuple [.str w, x]) (.int (k + 1 : Nat)) .non .non .non) [.io (.dic (en ps E))] = .ok false [.io (.dic (en ps E))] := t2_ok (k := false) rfl rfl rfl rfl (by show eqE (.int ((k + 1 : Nat) : Int)) (.int ((0 : Nat) : Int)) = _; rw [eq_len, decide_eq_false (by omega)])
        refine sSeq_ok (sIf_ok (k := false) (st1 := [.io (.dic (en ps E))]) rfl rfl) ?_
        refine sSeq_ok (sIf_ok (tOrF_ok (k := false) rfl (bif_f rfl (tOrF_ok z0 (bif_f rfl (show t2 notInD (un lenD (aCons (eName 2) aNil)) (eTup (aCons (eD (.int 2)) (aCons (eD (.int 3)) aNil))) _ [.io (.dic (en ps E))] = .ok false [.io (.dic (en ps E))] from rfl))))) rfl) ?_
        refine sSeq_ok (sSet_ok (e1 := .val (.str (T3 x))) (st1 := [.io (.dic (en ps E1))]) (part_ev hn rfl f1) rfl) ?_
        refine sSeq_ok (sIf_ok (t_empty hn (hvx x mx) rfl) rfl) ?_
        refine sSeq_ok (sIf_ok (k := true) (st1 := [.io (.dic (en ps E1))]) rfl (bif_t rfl (sSet_ok (e1 := .val (.int (plc ps 3 (.tuple [.str w, x])))) (st1 := [.io (.dic (en ps E1))]) ?_ rfl))) ?_
        · exact call2_val (a := .str w) (b := .int (plc ps 3 x)) rfl (pl_ev hn rfl rfl g1 g4) (by rw [one_ok hw _ (by rw [px x mx]; exact plc_12 hn (hx x mx)) ha, hpl])
        · exact eTail_ok hn hw hv h12 g1 (by omega) (Nat.le_trans (T3_len (hvx x mx)) (by omega)) tx3
      · rw [pt]
        have := addE_len E1 (.tuple [.str w, x])
        simp only [List.map_cons, List.map_nil, List.flatten_cons, List.flatten_nil, List.append_nil, List.length_cons]
        omega
    · have mx : x ∈ [x, y] := List.mem_cons_self
      have my : y ∈ [x, y] := List.mem_cons_of_mem _ List.mem_cons_self
      have pl3 : PL 3 = 15 := rfl
      have p15 := (pts_len 3 x (hvx x mx)).2
      have p15y := (pts_len 3 y (hvx y my)).2
      obtain ⟨E1, f1, g1, g2, g3, g4⟩ := ent_ok k n x E (by omega) (by omega) hE (by omega) (hx x mx)
      obtain ⟨E2, f2, q1, q2, q3, q4⟩ := ent_ok k n y E1 (by omega) (by omega) g1 (by omega) (hx y my)
      obtain ⟨a1, a2⟩ := q1.add hv
      have hpl : wordP (.str w) [plc ps 3 x, plc ps 3 y] = plc ps 3 (.tuple [.str w, x, y]) := by rw [hp3, px x mx, px y my]; rfl
      have x2 : x ∈ E2 := (q2 x).mpr (.inl g4)
      have tx3 : Str.empty ++ w ++ " " ++ (Str.empty ++ T3 x ++ " " ++ T3 y) = T3 (.tuple [.str w, x, y]) := by
        rw [T3_of hk3 hv0, T3_of (k := k) (d := x) (by omega) (vt_of hn k x (hx x mx)), T3_of (k := k) (d := y) (by omega) (vt_of hn k y (hx y my)), chs_two, tx_of w]
        rw [glue hn, glue hn]
        simp [tx]
      have lt : (Str.empty ++ T3 x ++ " " ++ T3 y).length ≤ 2000 := by
        have v3 := T3_len hv
        have e : (Str.empty ++ T3 x ++ " " ++ T3 y) = tx (chs k x ++ 32 :: chs k y) := by
          rw [T3_of (k := k) (d := x) (by omega) (vt_of hn k x (hx x mx)), T3_of (k := k) (d := y) (by omega) (vt_of hn k y (hx y my)), glue hn]
        have e2 : T3 (.tuple [.str w, x, y]) = tx (w.cps.toList ++ 32 :: (chs k x ++ 32 :: chs k y)) := by rw [T3_of hk3 hv0, chs_two]
        rw [e2, tx_len, List.length_append, List.length_cons] at v3
        rw [e, tx_len]
        omega
      refine ⟨addE E2 (.tuple [.str w, x, y]), ?_, a1, fun z => by rw [a2, q2, g2, pt]; simp [or_assoc, or_comm, or_left_comm], ?_, (a2 _).mpr (.inr rfl)⟩
      · apply runD_rt (st := [.io (.dic (en ps (addE E2 (.tuple [.str w, x, y]))))])
        show g_enter_term (d_enter_term n) (esl (.dict (ps.map kv)) (.tuple [.str w, x, y]) (.int (k + 1 : Nat)) .non .non .non) [.io (.dic (en ps E))] = _
        unfold g_enter_term
        have z0 : t2 eqE (eName 3) (eD (.int 0)) (esl (.dict (ps.map kv)) (.tuple [.str w, x, y]) (.int (k + 1 : Nat)) .non .non .non) [.io (.dic (en ps E))] = .ok false [.io (.dic (en ps E))] := t2_ok (k := false) rfl rfl rfl rfl (by show eqE (.int ((k + 1 : Nat) : Int)) (.int ((0 : Nat) : Int)) = _; rw [eq_len, decide_eq_false (by omega)])
        refine sSeq_ok (sIf_ok (k := false) (st1 := [.io (.dic (en ps E))]) rfl rfl) ?_
        refine sSeq_ok (sIf_ok (tOrF_ok (k := false) rfl (bif_f rfl (tOrF_ok z0 (bif_f rfl (show t2 notInD (un lenD (aCons (eName 2) aNil)) (eTup (aCons (eD (.int 2)) (aCons (eD (.int 3)) aNil))) _ [.io (.dic (en ps E))] = .ok false [.io (.dic (en ps E))] from rfl))))) rfl) ?_
        refine sSeq_ok (sSet_ok (e1 := .val (.str (T3 x))) (st1 := [.io (.dic (en ps E1))]) (part_ev hn rfl f1) rfl) ?_
        refine sSeq_ok (sIf_ok (t_empty hn (hvx x mx) rfl) rfl) ?_
        refine sSeq_ok (sl1 := esl (.dict (ps.map kv)) (.tuple [.str w, x, y]) (.int (k + 1 : Nat)) (.val (.str (Str.empty ++ T3 x ++ " " ++ T3 y))) (.val (.int (plc ps 3 (.tuple [.str w, x, y])))) (.val (.str (T3 y)))) (st1 := [.io (.dic (en ps E2))]) (sIf_ok (k := false) (st1 := [.io (.dic (en ps E1))]) rfl (bif_f rfl ?_)) ?_
        · refine sSeq_ok (sSet_ok (e1 := .val (.str (T3 y))) (st1 := [.io (.dic (en ps E2))]) (part_ev hn rfl f2) rfl) ?_
          refine sSeq_ok (sIf_ok (t_empty hn (hvx y my) rfl) rfl) ?_
          refine sSeq_ok (sSet_ok (e1 := .val (.int (plc ps 3 (.tuple [.str w, x, y])))) (st1 := [.io (.dic (en ps E2))]) ?_ rfl) ?_
          · exact call3_val (a := .str w) (b := .int (plc ps 3 x)) (c := .int (plc ps 3 y)) rfl (pl_ev hn rfl rfl q1 x2) (pl_ev hn rfl rfl q1 q4) (by rw [two_ok hw _ _ (by rw [px x mx]; exact plc_12 hn (hx x mx)) (by rw [px y my]; exact plc_12 hn (hx y my)) ha, hpl])
          · exact sSet_ok (e1 := .val (.str (Str.empty ++ T3 x ++ " " ++ T3 y))) (st1 := [.io (.dic (en ps E2))]) (join2_ev hn rfl rfl (Nat.le_trans (T3_len (hvx x mx)) (by omega)) (Nat.le_trans (T3_len (hvx y my)) (by omega))) rfl
        · exact eTail_ok hn hw hv h12 q1 (by omega) lt tx3
      · rw [pt]
        have := addE_len E2 (.tuple [.str w, x, y])
        simp only [List.map_cons, List.map_nil, List.flatten_cons, List.flatten_nil, List.append_nil, List.length_cons, List.length_append]
        omega
  | k, n + 1, .none, _, _, _, _, _, hp => absurd hp (by rw [plc_other k rfl rfl]; omega)
  | k, n + 1, .bool _, _, _, _, _, _, hp => absurd hp (by rw [plc_other k rfl rfl]; omega)
  | k, n + 1, .int _, _, _, _, _, _, hp => absurd hp (by rw [plc_other k rfl rfl]; omega)
  | k, n + 1, .list _, _, _, _, _, _, hp => absurd hp (by rw [plc_other k rfl rfl]; omega)
  | k, n + 1, .dict _, _, _, _, _, _, hp => absurd hp (by rw [plc_other k rfl rfl]; omega)
end
end G03
/-! E1: what is no term is not entered -/
namespace G03
open PySem PySem.Spec PyProof.Rows L2 Px
theorem isW_no {w : PyData} (h : ¬ ∃ s ∈ W6, w = .str s) {t : Str} (ht : t ∈ W6) : isW w t = false := by
  cases w with
  | str s =>
    show decide (s = t) = false
    exact decide_eq_false fun e => h ⟨s, by rw [e]; exact ht, rfl⟩
  | _ => rfl
theorem wordP_none {w : PyData} (h : ¬ ∃ s ∈ W6, w = .str s) (own : List Int) : wordP w own = 0 := by
  unfold wordP
  rw [isW_no h (t := "not") (by decide), isW_no h (t := "both") (by decide), isW_no h (t := "either") (by decide), isW_no h (t := "turned") (by decide), isW_no h (t := "chain") (by decide), isW_no h (t := "some") (by decide)]
  rfl
theorem one_any (w : PyData) {p : Int} (hp : p = 1 ∨ p = 2) : d_places_of_one [.val w, .val (.int p)] = .rt (.int (wordP w [p])) [] := by
  by_cases hw : ∃ s ∈ W6, w = .str s
  · obtain ⟨s, hs, rfl⟩ := hw
    simp only [W6, List.mem_cons, List.not_mem_nil, or_false] at hs
    rcases hs with rfl | rfl | rfl | rfl | rfl | rfl <;> rcases hp with rfl | rfl <;> rfl
  · rw [wordP_none hw]
    have e : ∀ t ∈ W6, t2 eqX (eName 0) (eD (.str t)) [.val w, .val (.int p)] [] = .ok false [] := fun t ht => by
      have := t_eqX (w := w) (f := eName 0) (sl := [.val w, .val (.int p)]) (st := []) t rfl
      rw [isW_no hw ht] at this
      exact this
    apply runD_rt (st := [])
    show g_places_of_one [.val w, .val (.int p)] [] = _
    unfold g_places_of_one
    refine sSeq_ok (sIf_ok (k := false) (tOrF_ok (k := false) (e "not" (by decide)) (bif_f rfl (tAndF_ok (k := false) (e "turned" (by decide)) rfl))) rfl) ?_
    exact sRet_ok (e1 := .val (.int 0)) (st1 := []) (eIf_ok (k := false) (tAndF_ok (k := false) (e "some" (by decide)) rfl) rfl) rfl
theorem two_any (w : PyData) {p q : Int} (hp : p = 1 ∨ p = 2) (hq : q = 1 ∨ q = 2) : d_places_of_two [.val w, .val (.int p), .val (.int q)] = .rt (.int (wordP w [p, q])) [] := by
  by_cases hw : ∃ s ∈ W6, w = .str s
  · obtain ⟨s, hs, rfl⟩ := hw
    simp only [W6, List.mem_cons, List.not_mem_nil, or_false] at hs
    rcases hs with rfl | rfl | rfl | rfl | rfl | rfl <;> rcases hp with rfl | rfl <;> rcases hq with rfl | rfl <;> rfl
  · rw [wordP_none hw]
    have e : ∀ t ∈ W6, t2 eqX (eName 0) (eD (.str t)) [.val w, .val (.int p), .val (.int q)] [] = .ok false [] := fun t ht => by
      have := t_eqX (w := w) (f := eName 0) (sl := [.val w, .val (.int p), .val (.int q)]) (st := []) t rfl
      rw [isW_no hw ht] at this
      exact this
    apply runD_rt (st := [])
    show g_places_of_two [.val w, .val (.int p), .val (.int q)] [] = _
    unfold g_places_of_two
    by_cases pq : p = q
    · subst pq
      have n : t2 neE (eName 1) (eName 2) [.val w, .val (.int p), .val (.int p)] [] = .ok false [] := by
        rcases hp with rfl | rfl <;> rfl
      refine sSeq_ok (sIf_ok (k := false) n rfl) ?_
      refine sSeq_ok (sIf_ok (k := false) (tOrF_ok (k := false) (e "both" (by decide)) (bif_f rfl (tOrF_ok (k := false) (e "either" (by decide)) (bif_f rfl (tAndF_ok (k := false) (e "chain" (by decide)) rfl))))) rfl) ?_
      rfl
    · have n : t2 neE (eName 1) (eName 2) [.val w, .val (.int p), .val (.int q)] [] = .ok true [] := by
        rcases hp with rfl | rfl <;> rcases hq with rfl | rfl <;> first | rfl | exact absurd rfl pq
      exact sSeq_rt (sIf_ok (k := true) n rfl)
theorem notin23 (k : Nat) : notInD (.int k) (.tuple [.int 2, .int 3]) = some (!(decide (k = 2) || decide (k = 3))) := by
  show some (!((PyData.eqv (.int 2) (.int k)) || (PyData.eqv (.int 3) (.int k) || false))) = _
  simp only [PyData.eqv]
  have h2 : decide ((2 : Int) = (k : Int)) = decide (k = 2) := decide_eq_decide.mpr (by omega)
  have h3 : decide ((3 : Int) = (k : Int)) = decide (k = 3) := decide_eq_decide.mpr (by omega)
  first
    | rw [h2, h3, Bool.or_false]
    | (congr 2; rw [Bool.or_false]; congr 1 <;> (first | exact h2 | exact h3 | simp; omega))
theorem val_none {s : Str} : ∀ {ps : List (Str × Int)}, s ∉ ps.map (·.1) → valD (.inr s) (ps.map kv) = none
  | [], _ => rfl
  | p :: r, h => by
    rw [List.map_cons, List.mem_cons, not_or] at h
    rw [List.map_cons]
    unfold valD
    have ne : ¬ (keyS (kv p).1 = some (Sum.inr s : Key)) := fun e => h.1 (Sum.inr.inj (Option.some.inj (show some (Sum.inr p.1 : Key) = some (Sum.inr s) from e))).symm
    simp only [ne, if_false]
    exact val_none h.2
section
variable {ps : List (Str × Int)} (hn : Nt ps)
include hn
abbrev ST (ps : List (Str × Int)) (E : List PyData) : Sto := [.io (.dic (en ps E))]
abbrev ES (ps : List (Str × Int)) (d : PyData) (k : Nat) (a b c : Sl) : Sls := esl (.dict (ps.map kv)) d (.int k) a b c
abbrev stopT : FT := tOrF (tst (u1 (tyNotD "tuple") (eName 2))) (tOrF (t2 eqE (eName 3) (eD (.int 0))) (t2 notInD (un lenD (aCons (eName 2) aNil)) (eTup (aCons (eD (.int 2)) (aCons (eD (.int 3)) aNil)))))
theorem ent_stop {n k : Nat} {d : PyData} {E : List PyData} (ns : Px.kindOf d ≠ "str") (h : stopT (ES ps d k .non .non .non) (ST ps E) = .ok true (ST ps E)) : d_enter_term (n + 1) [.val (.dict (ps.map kv)), .io (.dic (en ps E)), .val d, .val (.int k)] = .rt (.str "") [.dic (en ps E)] := by
  have t1 : tst (u1 (tyIsD "str") (eName 2)) (ES ps d k .non .non .non) (ST ps E) = .ok false (ST ps E) := tst_ok (u1_ok (r := .val (.bool false)) (e1 := .val d) (a := d) rfl rfl (by
    show some (OR.val (.bool (decide (Px.kindOf d = "str")))) = _
    rw [decide_eq_false ns]))
  show runD n_enter_term.length (g_enter_term (d_enter_term n)) _ = _
  apply runD_rt (st := ST ps E)
  show g_enter_term (d_enter_term n) (ES ps d k .non .non .non) (ST ps E) = _
  unfold g_enter_term
  exact sSeq_ok (sIf_ok (k := false) t1 rfl) (sSeq_rt (sIf_ok (k := true) h rfl))
theorem part_any {n k : Nat} {d x : PyData} {t : Str} {E E1 : List PyData} {a b c : Sl} {j : Int} (hx : u2 ixD (eName 2) (eD (.int j)) (ES ps d (k + 1) a b c) (ST ps E) = .ok (.val x) (ST ps E)) (h : d_enter_term n [.val (.dict (ps.map kv)), .io (.dic (en ps E)), .val x, .val (.int k)] = .rt (.str t) [.dic (en ps E1)]) :
    eCall (d_enter_term n) [false, true, false, false] (aCons (eName 0) (aCons (eName 1) (aCons (u2 ixD (eName 2) (eD (.int j))) (aCons (u2 subD (eName 3) (eD (.int 1))) aNil)))) (ES ps d (k + 1) a b c) (ST ps E) = .ok (.val (.str t)) (ST ps E1) := by
  have sb : u2 subD (eName 3) (eD (.int 1)) (ES ps d (k + 1) a b c) (ST ps E) = .ok (.val (.int k)) (ST ps E) := by
    refine u2_ok (r := .val (.int k)) rfl rfl rfl rfl ?_
    show some (OR.val (.int (((k + 1 : Nat) : Int) - 1))) = _
    rw [show (((k + 1 : Nat) : Int) - 1) = (k : Int) by omega]
  exact eCall_ok (es := [.val (.dict (ps.map kv)), .bor 0, .val x, .val (.int k)]) (rs := [.inl (.dict (ps.map kv)), .inr 0, .inl x, .inl (.int k)]) (as := [.val (.dict (ps.map kv)), .io (.dic (en ps E)), .val x, .val (.int k)]) (ns := [0]) (os := [.dic (en ps E1)]) (st1 := ST ps E) (st2 := ST ps E)
    (aCons_ok (e1 := .val (.dict (ps.map kv))) (es := [.bor 0, .val x, .val (.int k)]) rfl (aCons_ok (e1 := .bor 0) (es := [.val x, .val (.int k)]) rfl (aCons_ok (e1 := .val x) (es := [.val (.int k)]) hx (aCons_ok (e1 := .val (.int k)) (es := []) sb rfl)))) rfl rfl (by decide) h rfl
theorem e_empty {i : Nat} {sl : Sls} {st : Sto} (h : eName i sl st = .ok (.val (.str "")) st) : t2 eqX (eName i) (eD (.str "")) sl st = .ok true st := t_eqX (w := .str "") "" h
theorem ent_no : ∀ (k n : Nat) (d : PyData) (E : List PyData), k < n → k ≤ 3 → Ew E → E.length + 100 * k ≤ 900 → ¬ 0 < plc ps k d →
    ∃ E', d_enter_term n [.val (.dict (ps.map kv)), .io (.dic (en ps E)), .val d, .val (.int k)] = .rt (.str "") [.dic (en ps E')] ∧ Ew E' ∧ E'.length ≤ E.length + 50 * k
  | _, 0, _, _, h, _, _, _, _ => absurd h (by omega)
  | k, n + 1, .str s, E, hk, hk3, hE, hl, hp => by
    have lk : plc ps k (.str s) = look ps s := by cases k <;> rfl
    rw [lk] at hp
    have sm : s ∉ ps.map (·.1) := fun z => by
      have pos : ∀ {ps : List (Str × Int)}, (∀ p ∈ ps, p.2 = 1 ∨ p.2 = 2) → s ∈ ps.map (·.1) → 0 < look ps s := by
        intro ps
        induction ps with
        | nil => intro _ h; cases h
        | cons p r ih =>
          intro h1 h2
          unfold look
          split
          · have := h1 p List.mem_cons_self
            omega
          · rename_i ne
            refine ih (fun q hq => h1 q (List.mem_cons_of_mem _ hq)) ?_
            rw [List.map_cons] at h2
            rcases List.mem_cons.mp h2 with e | e
            · exact absurd e (by first | exact fun z => ne z.symm | exact ne)
            · exact e
      exact hp (pos hn.places z)
    refine ⟨E, ?_, hE, by omega⟩
    show runD n_enter_term.length (g_enter_term (d_enter_term n)) _ = _
    apply runD_rt (st := ST ps E)
    show g_enter_term (d_enter_term n) (ES ps (.str s) k .non .non .non) (ST ps E) = _
    unfold g_enter_term
    refine sSeq_rt (sIf_ok (k := true) (st1 := ST ps E) rfl (bif_t rfl ?_))
    have c : t2 notInK (eName 2) (eName 0) (ES ps (.str s) k .non .non .non) (ST ps E) = .ok true (ST ps E) := by
      refine t2_ok (k := true) (a := .str s) (b := .dict (ps.map kv)) rfl rfl rfl rfl ?_
      show ((some (valD (.inr s) (ps.map kv)).isSome).map (!·)) = _
      have : (valD (.inr s) (ps.map kv)).isSome = false := by rw [val_none sm]; rfl
      rw [this]
      rfl
    exact sSeq_rt (sIf_ok (k := true) c rfl)
  | k, n + 1, .none, E, _, _, hE, _, _ => ⟨E, ent_stop hn (by decide) rfl, hE, by omega⟩
  | k, n + 1, .bool b, E, _, _, hE, _, _ => ⟨E, ent_stop hn (by show "bool" ≠ "str"; decide) rfl, hE, by omega⟩
  | k, n + 1, .int b, E, _, _, hE, _, _ => ⟨E, ent_stop hn (by show "int" ≠ "str"; decide) rfl, hE, by omega⟩
  | k, n + 1, .list b, E, _, _, hE, _, _ => ⟨E, ent_stop hn (by show "list" ≠ "str"; decide) rfl, hE, by omega⟩
  | k, n + 1, .dict b, E, _, _, hE, _, _ => ⟨E, ent_stop hn (by show "dict" ≠ "str"; decide) rfl, hE, by omega⟩
  | 0, n + 1, .tuple ds, E, _, _, hE, _, _ => ⟨E, ent_stop hn (by show "tuple" ≠ "str"; decide) (tOrF_ok (k := false) (st1 := ST ps E) rfl (bif_f rfl (tOrF_ok (k := true) (st1 := ST ps E) rfl rfl))), hE, by omega⟩
  | k + 1, n + 1, .tuple ds, E, hk, hk3, hE, hl, hp => by
    have z0 : t2 eqE (eName 3) (eD (.int 0)) (ES ps (.tuple ds) (k + 1) .non .non .non) (ST ps E) = .ok false (ST ps E) := t2_ok (k := false) rfl rfl rfl rfl (by show eqE (.int ((k + 1 : Nat) : Int)) (.int ((0 : Nat) : Int)) = _; rw [eq_len, decide_eq_false (by omega)])
    have ni : t2 notInD (un lenD (aCons (eName 2) aNil)) (eTup (aCons (eD (.int 2)) (aCons (eD (.int 3)) aNil))) (ES ps (.tuple ds) (k + 1) .non .non .non) (ST ps E) = .ok (!(decide (ds.length = 2) || decide (ds.length = 3))) (ST ps E) :=
      t2_ok (a := .int ds.length) (b := .tuple [.int 2, .int 3]) (un_ok (r := .val (.int ds.length)) (es := [.val (.tuple ds)]) (ds := [.tuple ds]) (st1 := ST ps E) rfl rfl rfl) rfl rfl rfl (notin23 _)
    have stp : stopT (ES ps (.tuple ds) (k + 1) .non .non .non) (ST ps E) = .ok (!(decide (ds.length = 2) || decide (ds.length = 3))) (ST ps E) := tOrF_ok (k := false) (st1 := ST ps E) rfl (bif_f rfl (tOrF_ok z0 (bif_f rfl ni)))
    by_cases h23 : ds.length = 2 ∨ ds.length = 3
    · have c23 : (!(decide (ds.length = 2) || decide (ds.length = 3))) = false := by
        rcases h23 with e | e <;> rw [e] <;> rfl
      rw [c23] at stp
      have t1 : tst (u1 (tyIsD "str") (eName 2)) (ES ps (.tuple ds) (k + 1) .non .non .non) (ST ps E) = .ok false (ST ps E) := rfl
      have rng := plc_rng hn.places
      have pl3 : PL 3 = 15 := rfl
      show ∃ E', runD n_enter_term.length (g_enter_term (d_enter_term n)) _ = _ ∧ _
      have fin : ∀ {E'}, g_enter_term (d_enter_term n) (ES ps (.tuple ds) (k + 1) .non .non .non) (ST ps E) = .rt (.str "") (ST ps E') → runD n_enter_term.length (g_enter_term (d_enter_term n)) [.val (.dict (ps.map kv)), .io (.dic (en ps E)), .val (.tuple ds), .val (.int (k + 1 : Nat))] = .rt (.str "") [.dic (en ps E')] := fun {E'} h => by
        have e : runD n_enter_term.length (g_enter_term (d_enter_term n)) [.val (.dict (ps.map kv)), .io (.dic (en ps E)), .val (.tuple ds), .val (.int (k + 1 : Nat))] = .rt (.str "") (outs (ST ps E')) := runD_rt h
        exact e
      obtain ⟨w, x, r, rfl⟩ : ∃ w x r, ds = w :: x :: r := by
        match ds, h23 with
        | w :: x :: r, _ => exact ⟨w, x, r, rfl⟩
        | [], h => simp at h
        | [_], h => simp at h
      have ix1 : u2 ixD (eName 2) (eD (.int 1)) (ES ps (.tuple (w :: x :: r)) (k + 1) .non .non .non) (ST ps E) = .ok (.val x) (ST ps E) := u2_ok (r := .val x) (a := .tuple (w :: x :: r)) (b := .int (1 : Nat)) rfl rfl rfl rfl (ix_nat (ds := w :: x :: r) (j := 1) (by simp)).2
      by_cases px : 0 < plc ps k x
      · -- the first part is a term
        have vx := (vt_of hn k x px).mono (k := k) (j := 3) (by omega)
        obtain ⟨E1, f1, g1, g2, g3, g4⟩ := ent_ok hn k n x E (by omega) (by omega) hE (by omega) px
        have p15 := (pts_len 3 x vx).2
        have q1 := part_any hn ix1 f1
        have p3 := plc3 hn (k := k) (d := x) (by omega) px
        have p12 := plc_12 hn px
        have hd0 : ∀ {a b c : Sl} {E : List PyData}, u2 ixD (eName 2) (eD (.int 0)) (ES ps (.tuple (w :: x :: r)) (k + 1) a b c) (ST ps E) = .ok (.val w) (ST ps E) := fun {a b c E} => head_ev rfl
        rcases r with _ | ⟨y, r⟩
        · -- two things
          have pz : wordP w [plc ps k x] = 0 := by
            have e : plc ps (k + 1) (.tuple [w, x]) = wordP w [plc ps k x] := rfl
            have := (rng (k + 1) (.tuple [w, x])).1
            rw [e] at this hp
            omega
          have pc : eCall d_places_of_one [false, false] (aCons (u2 ixD (eName 2) (eD (.int 0))) (aCons (u2 ixD (u2 keyD2 (eName 1) (eName 4)) (eD (.int 1))) aNil)) (ES ps (.tuple [w, x]) (k + 1) (.val (.str (T3 x))) .non .non) (ST ps E1) = .ok (.val (.int 0)) (ST ps E1) := by
            have := one_any w p12
            rw [pz] at this
            exact call2_val (a := w) (b := .int (plc ps 3 x)) hd0 (pl_ev hn rfl rfl g1 g4) (by rw [p3]; exact this)
          refine ⟨E1, fin ?_, g1, by omega⟩
          unfold g_enter_term
          refine sSeq_ok (sIf_ok (k := false) t1 rfl) (sSeq_ok (sIf_ok (k := false) stp rfl) (sSeq_ok (sSet_ok q1 rfl) (sSeq_ok (sIf_ok (t_empty hn vx rfl) rfl) ?_)))
          refine sSeq_ok (sl1 := ES ps (.tuple [w, x]) (k + 1) (.val (.str (T3 x))) (.val (.int 0)) .non) (st1 := ST ps E1) (sIf_ok (k := true) (st1 := ST ps E1) rfl (bif_t rfl (sSet_ok pc rfl))) ?_
          exact sSeq_rt (sIf_ok (k := true) (st1 := ST ps E1) rfl rfl)
        · have r0 : r = [] := by
            cases r with
            | nil => rfl
            | cons _ _ => simp at h23
          subst r0
          have ix2 : ∀ {a b c : Sl} {E : List PyData}, u2 ixD (eName 2) (eD (.int 2)) (ES ps (.tuple [w, x, y]) (k + 1) a b c) (ST ps E) = .ok (.val y) (ST ps E) := fun {a b c E} => u2_ok (r := .val y) (a := .tuple [w, x, y]) (b := .int (2 : Nat)) rfl rfl rfl rfl rfl
          have ln2 : t2 eqE (un lenD (aCons (eName 2) aNil)) (eD (.int 2)) (ES ps (.tuple [w, x, y]) (k + 1) (.val (.str (T3 x))) .non .non) (ST ps E1) = .ok false (ST ps E1) := rfl
          by_cases py : 0 < plc ps k y
          · have vy := (vt_of hn k y py).mono (k := k) (j := 3) (by omega)
            obtain ⟨E2, f2, u1', u2', u3', u4'⟩ := ent_ok hn k n y E1 (by omega) (by omega) g1 (by omega) py
            have p15y := (pts_len 3 y vy).2
            have y3 := plc3 hn (k := k) (d := y) (by omega) py
            have y12 := plc_12 hn py
            have q2 := part_any hn (ix2 (a := .val (.str (T3 x))) (b := .non) (c := .non) (E := E1)) f2
            have x2 : x ∈ E2 := (u2' x).mpr (.inl g4)
            have pz : wordP w [plc ps k x, plc ps k y] = 0 := by
              have e : plc ps (k + 1) (.tuple [w, x, y]) = wordP w [plc ps k x, plc ps k y] := rfl
              have := (rng (k + 1) (.tuple [w, x, y])).1
              rw [e] at this hp
              omega
            have pc : eCall d_places_of_two [false, false, false] (aCons (u2 ixD (eName 2) (eD (.int 0))) (aCons (u2 ixD (u2 keyD2 (eName 1) (eName 4)) (eD (.int 1))) (aCons (u2 ixD (u2 keyD2 (eName 1) (eName 6)) (eD (.int 1))) aNil))) (ES ps (.tuple [w, x, y]) (k + 1) (.val (.str (T3 x))) .non (.val (.str (T3 y)))) (ST ps E2) = .ok (.val (.int 0)) (ST ps E2) := by
              have := two_any w p12 y12
              rw [pz] at this
              exact call3_val (a := w) (b := .int (plc ps 3 x)) (c := .int (plc ps 3 y)) hd0 (pl_ev hn rfl rfl u1' x2) (pl_ev hn rfl rfl u1' u4') (by rw [p3, y3]; exact this)
            have lx := T3_len vx
            have ly := T3_len vy
            have j2 : ∃ t, (jCons (u1 fmtD (eName 4)) (jCons (eD (.str " ")) (jCons (u1 fmtD (eName 6)) jNil))) Str.empty (ES ps (.tuple [w, x, y]) (k + 1) (.val (.str (T3 x))) (.val (.int 0)) (.val (.str (T3 y)))) (ST ps E2) = .ok (.val (.str t)) (ST ps E2) := ⟨_, join2_ev hn (by rfl) (by rfl) (by omega) (by omega)⟩
            obtain ⟨t, j2⟩ := j2
            refine ⟨E2, fin ?_, u1', by omega⟩
            unfold g_enter_term
            refine sSeq_ok (sIf_ok (k := false) t1 rfl) (sSeq_ok (sIf_ok (k := false) stp rfl) (sSeq_ok (sSet_ok q1 rfl) (sSeq_ok (sIf_ok (t_empty hn vx rfl) rfl) ?_)))
            refine sSeq_ok (sl1 := ES ps (.tuple [w, x, y]) (k + 1) (.val (.str t)) (.val (.int 0)) (.val (.str (T3 y)))) (st1 := ST ps E2) (sIf_ok (k := false) ln2 (bif_f rfl ?_)) ?_
            · refine sSeq_ok (sl1 := ES ps (.tuple [w, x, y]) (k + 1) (.val (.str (T3 x))) .non (.val (.str (T3 y)))) (st1 := ST ps E2) (sSet_ok q2 rfl) (sSeq_ok (sIf_ok (t_empty hn vy rfl) rfl) ?_)
              exact sSeq_ok (sl1 := ES ps (.tuple [w, x, y]) (k + 1) (.val (.str (T3 x))) (.val (.int 0)) (.val (.str (T3 y)))) (st1 := ST ps E2) (sSet_ok pc rfl) (sSet_ok j2 rfl)
            · exact sSeq_rt (sIf_ok (k := true) (st1 := ST ps E2) rfl rfl)
          · obtain ⟨E2, f2, e2, l2⟩ := ent_no k n y E1 (by omega) (by omega) g1 (by omega) py
            have q2 := part_any hn (ix2 (a := .val (.str (T3 x))) (b := .non) (c := .non) (E := E1)) f2
            refine ⟨E2, fin ?_, e2, by omega⟩
            unfold g_enter_term
            refine sSeq_ok (sIf_ok (k := false) t1 rfl) (sSeq_ok (sIf_ok (k := false) stp rfl) (sSeq_ok (sSet_ok q1 rfl) (sSeq_ok (sIf_ok (t_empty hn vx rfl) rfl) ?_)))
            refine sSeq_rt (sIf_ok (k := false) ln2 (bif_f rfl ?_))
            exact sSeq_ok (sSet_ok q2 rfl) (sSeq_rt (sIf_ok (k := true) (e_empty hn rfl) rfl))
      · obtain ⟨E1, f1, e1, l1⟩ := ent_no k n x E (by omega) (by omega) hE (by omega) px
        have q1 := part_any hn ix1 f1
        refine ⟨E1, fin ?_, e1, by omega⟩
        unfold g_enter_term
        exact sSeq_ok (sIf_ok (k := false) t1 rfl) (sSeq_ok (sIf_ok (k := false) stp rfl) (sSeq_ok (sSet_ok q1 rfl) (sSeq_rt (sIf_ok (k := true) (e_empty hn rfl) rfl))))
    · have c23 : (!(decide (ds.length = 2) || decide (ds.length = 3))) = true := by
        rw [decide_eq_false fun e => h23 (.inl e), decide_eq_false fun e => h23 (.inr e)]
        rfl
      rw [c23] at stp
      exact ⟨E, ent_stop hn (by show "tuple" ≠ "str"; decide) stp, hE, by omega⟩
end
end G03
/-! P4: the terms of a field, found by the program -/
namespace G03
open PySem PySem.Spec PyProof.Rows L2 Px
theorem has_map {α : Type} (K : α → Str) (Vf : α → PyData) (s : Str) (l : List α) : hasD (.inr s) (l.map fun a => (.str (K a), Vf a)) = decide (s ∈ l.map K) := by
  unfold hasD
  induction l with
  | nil => rfl
  | cons p r ih =>
    rw [List.map_cons, List.any_cons, ih]
    show (decide (some (Sum.inr (K p)) = some (Sum.inr s : Key)) || decide (s ∈ r.map K)) = _
    by_cases e : K p = s
    · subst e
      rw [decide_eq_true rfl, Bool.true_or, decide_eq_true (by rw [List.map_cons]; exact List.mem_cons_self)]
    · rw [decide_eq_false (fun z => e (Sum.inr.inj (Option.some.inj z))), Bool.false_or]
      exact decide_eq_decide.mpr (by rw [List.map_cons, List.mem_cons]; exact ⟨.inr, fun z => z.elim (fun q => absurd q.symm e) id⟩)
theorem dcGo_new {α : Type} (K : α → Str) (Vf D : α → PyData) {h : FG} {t : FT} {fk fv : FE} {sl0 : Sls} {st : Sto} : ∀ (r acc : List α), (∀ a ∈ r, ∃ sl1 ev, h (D a) sl0 = some sl1 ∧ t sl1 st = .ok true st ∧ fk sl1 st = .ok (.val (.str (K a))) st ∧ fv sl1 st = .ok ev st ∧ ev.fix st = some (Vf a, st)) →
    ((acc ++ r).map K).Nodup → acc.length + r.length ≤ 1000 → dcGo h t fk fv sl0 (r.map D) st (acc.map fun a => (.str (K a), Vf a)) = some ((acc ++ r).map (fun a => (.str (K a), Vf a)), st)
  | [], acc, _, _, _ => by rw [List.append_nil]; rfl
  | a :: r, acc, hs, hn, hl => by
    rw [List.length_cons] at hl
    obtain ⟨sl1, ev, h1, h2, h3, h4, h5⟩ := hs a List.mem_cons_self
    have new : K a ∉ acc.map K := by
      rw [List.map_append, List.nodup_append] at hn
      exact fun z => hn.2.2 (K a) z (K a) List.mem_cons_self rfl
    have ih := dcGo_new K Vf D (h := h) (t := t) (fk := fk) (fv := fv) (sl0 := sl0) (st := st) r (acc ++ [a]) (fun b hb => hs b (List.mem_cons_of_mem _ hb)) (by rw [List.append_assoc]; exact hn) (by rw [List.length_append]; show acc.length + 1 + r.length ≤ 1000; omega)
    rw [List.map_cons]
    unfold dcGo
    rw [h1]
    dsimp only
    rw [h2]
    dsimp only
    rw [h3]
    dsimp only
    rw [h4]
    dsimp only
    rw [h5]
    dsimp only
    rw [if_pos (by rw [List.length_map]; unfold Lim; omega), put_new (by rw [has_map, decide_eq_false new])]
    rw [List.map_append] at ih
    have e2 : ((acc ++ [a]) ++ r) = acc ++ a :: r := by rw [List.append_assoc]; rfl
    rw [e2] at ih
    exact ih
theorem eDc_ok {vs : List Nat} {fi : FI} {h : FG} {t : FT} {fk fv : FE} {sl : Sls} {st st1 st2 : Sto} {ds : List PyData} {es : List (PyData × PyData)} (h1 : fi sl st = .ok ds st1) (h2 : dcGo h t fk fv (wipeS sl vs) ds st1 [] = some (es, st2)) : eDc vs fi h t fk fv sl st = .ok (.new (.dic es)) st2 := by
  unfold eDc
  rw [h1]
  dsimp only
  rw [h2]
section
variable {ps : List (Str × Int)} (hn : Nt ps)
include hn
end
end G03
/-! E2: terms, by the program -/
namespace G03
open PySem PySem.Spec PyProof.Rows L2 Px
section
variable {ps : List (Str × Int)}
theorem sorted_ev {E : List PyData} {sl : Sls} {st : Sto} {c : Nat} (h1 : sl[c]? = some (.val (.dict (en ps E)))) (hE : Ew E) (h64 : E.length < 64) : un sortedDD (aCons (eName c) aNil) sl st = .ok (.new (.lst ((sortS (E.map T3)).map .str))) st := by
  have n1 : eName c sl st = .ok (.val (.dict (en ps E))) st := by unfold eName; rw [h1]
  have ok : (E.map T3).all PyData.strOk = true := by
    rw [List.all_eq_true]
    intro t ht
    obtain ⟨e, he, rfl⟩ := List.mem_map.mp ht
    exact T3_ok (hE.each e he)
  refine un_ok (r := .new (.lst ((sortS (E.map T3)).map .str))) (es := [.val (.dict (en ps E))]) (ds := [.dict (en ps E)]) (aCons_ok (e1 := .val (.dict (en ps E))) (es := []) n1 rfl) rfl ?_
  show (match keysL (en ps E) with
    | some l => if l.length < 64 ∧ (l.all PyData.strOk) = true then some (OR.new (.lst ((sortS l).map .str))) else none
    | none => none) = _
  rw [keys_dn]
  dsimp only
  rw [if_pos ⟨by rw [List.length_map]; exact h64, ok⟩]
theorem outE_T3 {E : List PyData} (hE : Ew E) : (outE E).map T3 = sortS (E.map T3) ∧ (∀ y, y ∈ outE E ↔ y ∈ E) ∧ (outE E).length = E.length := by
  refine ⟨?_, fun y => ⟨fun h => ?_, fun h => ?_⟩, by unfold outE; rw [List.length_map, (sortS_perm _).length_eq, List.length_map]⟩
  · unfold outE
    rw [List.map_map]
    refine (List.map_congr_left fun s hs' => ?_).trans (List.map_id _)
    obtain ⟨y, hy, rfl⟩ := List.mem_map.mp ((sortS_perm _).mem_iff.mp hs')
    show T3 ((valD (.inr (T3 y)) (dm E)).getD .none) = T3 y
    rw [val_dm hE hy]
    rfl
  · unfold outE at h
    obtain ⟨s, hs', rfl⟩ := List.mem_map.mp h
    obtain ⟨z, hz, rfl⟩ := List.mem_map.mp ((sortS_perm _).mem_iff.mp hs')
    rw [val_dm hE hz]
    exact hz
  · unfold outE
    exact List.mem_map.mpr ⟨T3 y, (sortS_perm _).mem_iff.mpr (List.mem_map_of_mem h), by rw [val_dm hE h]; rfl⟩
theorem key_en {E : List PyData} {x : PyData} {sl : Sls} {st : Sto} {c v : Nat} (h1 : sl[c]? = some (.val (.dict (en ps E)))) (h2 : sl[v]? = some (.val (.str (T3 x)))) (hE : Ew E) (hx : x ∈ E) : u2 keyD2 (eName c) (eName v) sl st = .ok (.val (tp ps x)) st := by
  refine u2_ok (r := .val (tp ps x)) (e1 := .val (.dict (en ps E))) (e2 := .val (.str (T3 x))) (st1 := st) (by unfold eName; rw [h1]) (by unfold eName; rw [h2]) rfl rfl ?_
  show (valD (.inr (T3 x)) (en ps E)).map OR.val = _
  rw [val_dn hE hx]
  rfl
theorem by_text_ok {E : List PyData} (hE : Ew E) (h64 : E.length < 64) : d_terms_by_text [.val (.dict (en ps E))] = .rt (.tuple (outE E)) [] := by
  obtain ⟨o1, o2, o3⟩ := outE_T3 hE
  apply runD_rt (st := [])
  show g_terms_by_text [.val (.dict (en ps E)), .non] [] = _
  unfold g_terms_by_text
  have go := lcGo_map (h := gN 1) (t := tTrue) (f := u2 ixD (u2 keyD2 (eName 0) (eName 1)) (eD (.int 0))) (sl0 := wipeS [.val (.dict (en ps E)), .non] [1]) (st := []) (fun _ => true) (fun x => match x with | .str t => (valD (.inr t) (dm E)).getD .none | x => x) ((outE E).map fun x => .str (T3 x)) (by
    intro d hd
    obtain ⟨x, hx, rfl⟩ := List.mem_map.mp hd
    have xE := (o2 x).mp hx
    refine ⟨_, rfl, rfl, fun _ => ⟨.val x, u2_ok (r := .val x) (key_en (ps := ps) (c := 0) (v := 1) rfl rfl hE xE) rfl rfl rfl rfl, ?_⟩⟩
    show some (x, ([] : Sto)) = some ((valD (.inr (T3 x)) (dm E)).getD .none, [])
    rw [val_dm hE xE]
    rfl)
  rw [List.filter_eq_self.mpr (fun _ _ => rfl), List.map_map] at go
  have ge : (outE E).map ((fun x => match x with | .str t => (valD (.inr t) (dm E)).getD .none | x => x) ∘ fun x => PyData.str (T3 x)) = outE E := by
    refine (List.map_congr_left fun x hx => ?_).trans (List.map_id _)
    show (valD (.inr (T3 x)) (dm E)).getD .none = x
    rw [val_dm hE ((o2 x).mp hx)]
    rfl
  rw [ge] at go
  have so := sorted_ev (ps := ps) (E := E) (sl := [.val (.dict (en ps E)), .non]) (st := []) (c := 0) rfl hE h64
  have e1 : (sortS (E.map T3)).map PyData.str = (outE E).map fun x => .str (T3 x) := by rw [← o1, List.map_map]; rfl
  rw [e1] at so
  have lc := eLc_ok (vs := [1]) (iSeq_list so rfl) go (by rw [o3]; unfold Lim; omega)
  exact sRet_ok (e1 := .val (.tuple (outE E))) (st1 := []) (un_ok (r := .val (.tuple (outE E))) (es := [.val (.list (outE E))]) (ds := [.list (outE E)]) (aCons_ok (es := []) lc rfl) rfl rfl) rfl
end
theorem sAsg_exc {h : FG} {f : FE} {sl : Sls} {st st1 : Sto} {x : Exn} (e : f sl st = .exc x st1) : sAsg h f sl st = .exc x sl st1 := by unfold sAsg; rw [e]
theorem sAsg_ok {h : FG} {f : FE} {sl sl1 : Sls} {st st1 st2 : Sto} {ev : EV} {d : PyData} (h1 : f sl st = .ok ev st1) (h2 : ev.fix st1 = some (d, st2)) (h3 : h d sl = some sl1) : sAsg h f sl st = .nx sl1 st2 := by
  unfold sAsg
  rw [h1]
  dsimp only
  rw [h2]
  dsimp only
  rw [h3]
abbrev NoT : Exn := ⟨"NoTerm", none⟩
section
variable {ps : List (Str × Int)} (hn : Nt ps)
include hn
abbrev wsl (ps : List (Str × Int)) (d : PyData) (fo tx a b : Sl) : Sls := [.val (nt ps), .val d, fo, tx, a, b]
theorem names_w {d : PyData} {fo tx a b : Sl} {st : Sto} : eDc [4, 5] (iSeq (eName 0)) (gT 2 (gCons' (gN 4) (gCons' (gN 5) gNil'))) tTrue (eName 4) (eName 5) (wsl ps d fo tx a b) st = .ok (.new (.dic (ps.map kv))) st := by
  have h3 := hn.three
  have go := dcGo_new (fun q : Str × Int => q.1) (fun q => .int q.2) nd (h := gT 2 (gCons' (gN 4) (gCons' (gN 5) gNil'))) (t := tTrue) (fk := eName 4) (fv := eName 5) (sl0 := wipeS (wsl ps d fo tx a b) [4, 5]) (st := st) ps [] (fun q hq => ⟨_, _, rfl, rfl, rfl, rfl, rfl⟩) (by simpa using hn.names) (by simp; omega)
  rw [List.nil_append] at go
  exact eDc_ok (iSeq_tup (e1 := .val (nt ps)) rfl rfl) go
theorem pw_run {d : PyData} {t : Str} {E : List PyData} (h : d_enter_term 5 [.val (.dict (ps.map kv)), .io (.dic (en ps [])), .val d, .val (.int (3 : Nat))] = .rt (.str t) [.dic (en ps E)]) : d_parts_within [.val (nt ps), .val d] = .rt (.tuple [.str t, .dict (en ps E)]) [] := by
  let st0 : Sto := [.live (.dic [])]
  have c : eCall (d_enter_term 5) [false, true, false, false] (aDfl (aCons (eDc [4, 5] (iSeq (eName 0)) (gT 2 (gCons' (gN 4) (gCons' (gN 5) gNil'))) tTrue (eName 4) (eName 5)) (aCons (eName 2) (aCons (eName 1) aNil))) [.int 3]) (wsl ps d (.ref 0) .non .non .non) st0 = .ok (.val (.str t)) [.live (.dic (en ps E))] := by
    have fa : aDfl (aCons (eDc [4, 5] (iSeq (eName 0)) (gT 2 (gCons' (gN 4) (gCons' (gN 5) gNil'))) tTrue (eName 4) (eName 5)) (aCons (eName 2) (aCons (eName 1) aNil))) [.int 3] (wsl ps d (.ref 0) .non .non .non) st0 = .ok [.val (.dict (ps.map kv)), .bor 0, .val d, .val (.int 3)] st0 := by
      have f1 : aCons (eDc [4, 5] (iSeq (eName 0)) (gT 2 (gCons' (gN 4) (gCons' (gN 5) gNil'))) tTrue (eName 4) (eName 5)) (aCons (eName 2) (aCons (eName 1) aNil)) (wsl ps d (.ref 0) .non .non .non) st0 = .ok [.val (.dict (ps.map kv)), .bor 0, .val d] st0 := aCons_ok (e1 := .new (.dic (ps.map kv))) (es := [.bor 0, .val d]) (names_w hn) rfl
      unfold aDfl
      rw [f1]
      rfl
    exact eCall_ok (es := [.val (.dict (ps.map kv)), .bor 0, .val d, .val (.int 3)]) (rs := [.inl (.dict (ps.map kv)), .inr 0, .inl d, .inl (.int 3)]) (as := [.val (.dict (ps.map kv)), .io (.dic (en ps [])), .val d, .val (.int (3 : Nat))]) (ns := [0]) (os := [.dic (en ps E)]) (st1 := st0) (st2 := st0) fa rfl rfl (by decide) h rfl
  have key : g_parts_within (wsl ps d .non .non .non .non) [] = .rt (.tuple [.str t, .dict (en ps E)]) [.fz (.dict (en ps E))] := by
    unfold g_parts_within
    refine sSeq_ok (sl1 := wsl ps d (.ref 0) .non .non .non) (st1 := st0) rfl (sSeq_ok (sl1 := wsl ps d (.ref 0) (.val (.str t)) .non .non) (st1 := [.live (.dic (en ps E))]) (sSet_ok c rfl) ?_)
    rfl
  have e : runD n_parts_within.length g_parts_within [.val (nt ps), .val d] = .rt (.tuple [.str t, .dict (en ps E)]) (outs [.fz (.dict (en ps E))]) := runD_rt key
  exact e
theorem pw_yes {d : PyData} (g : 0 < plc ps 3 d) : ∃ E, d_parts_within [.val (nt ps), .val d] = .rt (.tuple [.str (T3 d), .dict (en ps E)]) [] ∧ Ew E ∧ (∀ y, y ∈ E ↔ y ∈ pts 3 d) ∧ E.length ≤ 15 ∧ d ∈ E := by
  have pl3 : PL 3 = 15 := rfl
  have p15 := (pts_len 3 d (vt_of hn 3 d g)).2
  obtain ⟨E, f, e1, e2, e3, e4⟩ := ent_ok hn 3 5 d [] (by omega) (by omega) Ew.nil (by simp) g
  exact ⟨E, pw_run hn f, e1, fun y => by rw [e2]; simp, by simp at e3; omega, e4⟩
theorem pw_no {d : PyData} (g : ¬ 0 < plc ps 3 d) : ∃ E, d_parts_within [.val (nt ps), .val d] = .rt (.tuple [.str "", .dict (en ps E)]) [] := by
  obtain ⟨E, f, _, _⟩ := ent_no hn 3 5 d [] (by omega) (by omega) Ew.nil (by simp) g
  exact ⟨E, pw_run hn f⟩
theorem req_nt : d_require_notions [.val (nt ps)] = .rt .none [] := by
  apply runD_nx (sl := [.val (nt ps)]) (st := [])
  show g_require_notions [.val (nt ps)] [] = _
  unfold g_require_notions
  exact sIf_ok (k := false) (tNotF_ok (k := true) (tst_ok (call1_val (a := nt ps) rfl (is_nt hn)))) rfl
theorem is_term_ok (d : PyData) : d_is_term [.val (nt ps), .val d] = .rt (.bool (decide (0 < plc ps 3 d))) [] := by
  have go : ∀ {t : Str} {E : List PyData} {b : Bool}, d_parts_within [.val (nt ps), .val d] = .rt (.tuple [.str t, .dict (en ps E)]) [] → neE (.str t) (.str "") = some b → d_is_term [.val (nt ps), .val d] = .rt (.bool b) [] := fun {t E b} h hb => by
    apply runD_rt (st := [])
    show g_is_term [.val (nt ps), .val d] [] = _
    unfold g_is_term
    have c : eCall d_parts_within [false, false] (aCons (eName 0) (aCons (eName 1) aNil)) [.val (nt ps), .val d] [] = .ok (.val (.tuple [.str t, .dict (en ps E)])) [] := call2_val (a := nt ps) (b := d) rfl rfl h
    have i : u2 ixD (eCall d_parts_within [false, false] (aCons (eName 0) (aCons (eName 1) aNil))) (eD (.int 0)) [.val (nt ps), .val d] [] = .ok (.val (.str t)) [] := u2_ok (r := .val (.str t)) (a := .tuple [.str t, .dict (en ps E)]) (b := .int 0) (e2 := .val (.int 0)) c rfl rfl rfl rfl
    refine sSeq_ok (sExpr_ok (e1 := .val .none) (call1_val (a := nt ps) rfl (req_nt hn))) (sRet_ok (e1 := .val (.bool b)) (st1 := []) (u2_ok (r := .val (.bool b)) (a := .str t) (b := .str "") (e2 := .val (.str "")) i rfl rfl rfl ?_) rfl)
    show (neE (.str t) (.str "")).map (fun c => OR.val (.bool c)) = _
    rw [hb]
    rfl
  by_cases g : 0 < plc ps 3 d
  · obtain ⟨E, h, _⟩ := pw_yes hn g
    rw [decide_eq_true g]
    refine go h ?_
    show some (!decide (T3 d = "")) = _
    rw [decide_eq_false (T3_ne (vt_of hn 3 d g))]
    rfl
  · obtain ⟨E, h⟩ := pw_no hn g
    rw [decide_eq_false g]
    exact go h rfl
theorem read_yes {d : PyData} (g : 0 < plc ps 3 d) : ∃ E, d_read [.val (nt ps), .val d] = .rt (.tuple [.str (T3 d), .dict (en ps E)]) [] ∧ Ew E ∧ (∀ y, y ∈ E ↔ y ∈ pts 3 d) ∧ E.length ≤ 15 ∧ d ∈ E := by
  obtain ⟨E, h, e⟩ := pw_yes hn g
  refine ⟨E, ?_, e⟩
  have c : eCall d_parts_within [false, false] (aCons (eName 0) (aCons (eName 1) aNil)) [.val (nt ps), .val d, .non, .non] [] = .ok (.val (.tuple [.str (T3 d), .dict (en ps E)])) [] := call2_val (a := nt ps) (b := d) rfl rfl h
  apply runD_rt (st := [])
  show g_read [.val (nt ps), .val d, .non, .non] [] = _
  unfold g_read
  refine sSeq_ok (sExpr_ok (e1 := .val .none) (call1_val (a := nt ps) rfl (req_nt hn))) (sSeq_ok (sl1 := [.val (nt ps), .val d, .val (.str (T3 d)), .val (.dict (en ps E))]) (st1 := []) (sAsg_ok c rfl rfl) ?_)
  refine sSeq_ok (sIf_ok (k := false) (t_empty hn (vt_of hn 3 d g) rfl) rfl) ?_
  exact sRet_ok (e1 := .val (.tuple [.str (T3 d), .dict (en ps E)])) (st1 := []) (eTup_ok (es := [.val (.str (T3 d)), .val (.dict (en ps E))]) (ds := [.str (T3 d), .dict (en ps E)]) rfl rfl (by show 2 ≤ Lim; decide)) rfl
theorem read_no {d : PyData} (g : ¬ 0 < plc ps 3 d) : d_read [.val (nt ps), .val d] = .exc NoT [] := by
  obtain ⟨E, h⟩ := pw_no hn g
  have c : eCall d_parts_within [false, false] (aCons (eName 0) (aCons (eName 1) aNil)) [.val (nt ps), .val d, .non, .non] [] = .ok (.val (.tuple [.str "", .dict (en ps E)])) [] := call2_val (a := nt ps) (b := d) rfl rfl h
  apply runD_exc (sl := [.val (nt ps), .val d, .val (.str ""), .val (.dict (en ps E))]) (st := [])
  show g_read [.val (nt ps), .val d, .non, .non] [] = _
  unfold g_read
  refine sSeq_ok (sExpr_ok (e1 := .val .none) (call1_val (a := nt ps) rfl (req_nt hn))) (sSeq_ok (sl1 := [.val (nt ps), .val d, .val (.str ""), .val (.dict (en ps E))]) (st1 := []) (sAsg_ok c rfl rfl) ?_)
  exact sSeq_exc (sIf_ok (k := true) (e_empty hn rfl) rfl)
theorem places_of_ok {d : PyData} (g : 0 < plc ps 3 d) : d_places_of [.val (nt ps), .val d] = .rt (.int (plc ps 3 d)) [] := by
  obtain ⟨E, h, e1, e2, e3, e4⟩ := read_yes hn g
  let S : Sls := [.val (nt ps), .val d, .val (.str (T3 d)), .val (.dict (en ps E))]
  have c : eCall d_read [false, false] (aCons (eName 0) (aCons (eName 1) aNil)) [.val (nt ps), .val d, .non, .non] [] = .ok (.val (.tuple [.str (T3 d), .dict (en ps E)])) [] := call2_val (a := nt ps) (b := d) rfl rfl h
  have k : u2 keyD2 (eName 3) (eName 2) S [] = .ok (.val (tp ps d)) [] := key_en (c := 3) (v := 2) rfl rfl e1 e4
  apply runD_rt (st := [])
  show g_places_of [.val (nt ps), .val d, .non, .non] [] = _
  unfold g_places_of
  exact sSeq_ok (sl1 := S) (st1 := []) (sAsg_ok c rfl rfl) (sRet_ok (e1 := .val (.int (plc ps 3 d))) (st1 := []) (u2_ok (r := .val (.int (plc ps 3 d))) (a := tp ps d) (b := .int 1) (e2 := .val (.int 1)) k rfl rfl rfl rfl) rfl)
theorem text_yes {d : PyData} (g : 0 < plc ps 3 d) : d_term_text [.val (nt ps), .val d] = .rt (.str (T3 d)) [] := by
  obtain ⟨E, h, _⟩ := read_yes hn g
  have c : eCall d_read [false, false] (aCons (eName 0) (aCons (eName 1) aNil)) [.val (nt ps), .val d, .non, .non] [] = .ok (.val (.tuple [.str (T3 d), .dict (en ps E)])) [] := call2_val (a := nt ps) (b := d) rfl rfl h
  apply runD_rt (st := [])
  show g_term_text [.val (nt ps), .val d, .non, .non] [] = _
  unfold g_term_text
  exact sSeq_ok (sl1 := [.val (nt ps), .val d, .val (.str (T3 d)), .val (.dict (en ps E))]) (st1 := []) (sAsg_ok c rfl rfl) rfl
theorem parts_yes {d : PyData} (g : 0 < plc ps 3 d) : ∃ E, d_parts_of [.val (nt ps), .val d] = .rt (.tuple (outE E)) [] ∧ Ew E ∧ ∀ y, y ∈ E ↔ y ∈ pts 3 d := by
  obtain ⟨E, h, e1, e2, e3, e4⟩ := read_yes hn g
  refine ⟨E, ?_, e1, e2⟩
  have c : eCall d_read [false, false] (aCons (eName 0) (aCons (eName 1) aNil)) [.val (nt ps), .val d, .non, .non] [] = .ok (.val (.tuple [.str (T3 d), .dict (en ps E)])) [] := call2_val (a := nt ps) (b := d) rfl rfl h
  apply runD_rt (st := [])
  show g_parts_of [.val (nt ps), .val d, .non, .non] [] = _
  unfold g_parts_of
  exact sSeq_ok (sl1 := [.val (nt ps), .val d, .val (.str (T3 d)), .val (.dict (en ps E))]) (st1 := []) (sAsg_ok c rfl rfl) (sRet_ok (e1 := .val (.tuple (outE E))) (st1 := []) (call1_val (a := .dict (en ps E)) rfl (by_text_ok e1 (by omega))) rfl)
theorem places_no {d : PyData} (g : ¬ 0 < plc ps 3 d) : d_places_of [.val (nt ps), .val d] = .exc NoT [] := by
  apply runD_exc (sl := [.val (nt ps), .val d, .non, .non]) (st := [])
  show g_places_of [.val (nt ps), .val d, .non, .non] [] = _
  unfold g_places_of
  exact sSeq_exc (sAsg_exc (call2_exc (a := nt ps) (b := d) rfl rfl (read_no hn g)))
theorem parts_no {d : PyData} (g : ¬ 0 < plc ps 3 d) : d_parts_of [.val (nt ps), .val d] = .exc NoT [] := by
  apply runD_exc (sl := [.val (nt ps), .val d, .non, .non]) (st := [])
  show g_parts_of [.val (nt ps), .val d, .non, .non] [] = _
  unfold g_parts_of
  exact sSeq_exc (sAsg_exc (call2_exc (a := nt ps) (b := d) rfl rfl (read_no hn g)))
theorem text_no {d : PyData} (g : ¬ 0 < plc ps 3 d) : d_term_text [.val (nt ps), .val d] = .exc NoT [] := by
  apply runD_exc (sl := [.val (nt ps), .val d, .non, .non]) (st := [])
  show g_term_text [.val (nt ps), .val d, .non, .non] [] = _
  unfold g_term_text
  exact sSeq_exc (sAsg_exc (call2_exc (a := nt ps) (b := d) rfl rfl (read_no hn g)))
end
end G03
namespace G03
open PySem PySem.Spec PyProof.Rows L2 Px
/-! ### the law's list of parts -/
/-! ### told at last -/
theorem due_loop {t : PyData} {x : Sl} : ∀ (L E : List PyData) (p : Sl), Ew E → (∀ e ∈ L, VT 3 e) → E.length + L.length ≤ 1000 →
    ∃ E' p', sFor (gN 2) (sSetKey (eName 2) (eName 1) (eCall (d_l_text 5) [false] (aCons (eName 2) aNil))) L [.val t, .ref 0, p, x] [.live (.dic (dm E))] = .nx [.val t, .ref 0, p', x] [.live (.dic (dm E'))] ∧ Ew E' ∧ E'.length ≤ E.length + L.length ∧ ∀ y, y ∈ E' ↔ y ∈ E ∨ y ∈ L
  | [], E, p, hE, _, _ => ⟨E, p, rfl, hE, by simp, fun y => by simp⟩
  | d :: L, E, p, hE, h, hl => by
    rw [List.length_cons] at hl
    have hd := h d List.mem_cons_self
    obtain ⟨a1, a2⟩ := hE.add hd
    have al := addE_len E d
    obtain ⟨E', p', e, e1, e2, e3⟩ := due_loop (t := t) (x := x) L (addE E d) (.val d) a1 (fun y hy => h y (List.mem_cons_of_mem _ hy)) (by omega)
    refine ⟨E', p', ?_, e1, by rw [List.length_cons]; omega, fun y => ?_⟩
    · have b : sSetKey (eName 2) (eName 1) (eCall (d_l_text 5) [false] (aCons (eName 2) aNil)) [.val t, .ref 0, .val d, x] [.live (.dic (dm E))] = .nx [.val t, .ref 0, .val d, x] [.live (.dic (dm (addE E d)))] :=
        key_ev (rest := []) rfl rfl (call1_val (a := d) rfl (ltext_ok 3 5 d (by omega) (by omega) hd)) hE hd (by omega)
      unfold sFor
      show (match sSetKey (eName 2) (eName 1) (eCall (d_l_text 5) [false] (aCons (eName 2) aNil)) [.val t, .ref 0, .val d, x] [.live (.dic (dm E))] with
        | .nx sl2 st2 => sFor (gN 2) (sSetKey (eName 2) (eName 1) (eCall (d_l_text 5) [false] (aCons (eName 2) aNil))) L sl2 st2
        | .ct sl2 st2 => sFor (gN 2) (sSetKey (eName 2) (eName 1) (eCall (d_l_text 5) [false] (aCons (eName 2) aNil))) L sl2 st2
        | .bk sl2 st2 => .nx sl2 st2
        | .rt d st2 => .rt d st2
        | .rn d st2 => .rn d st2
        | .exc x sl2 st2 => .exc x sl2 st2
        | .fail => .fail : RS) = _
      rw [b]
      exact e
    · rw [e3, a2, List.mem_cons, or_assoc]
/-- all parts, each once, by their texts -/
theorem due_ok {d : PyData} (h : VT 3 d) : ∃ E, d_l_due_parts [.val d] = .rt (.tuple (outE E)) [] ∧ Ew E ∧ ∀ y, y ∈ E ↔ y ∈ pts 3 d := by
  have pl := pts_len 3 d h
  have p15 : PL 3 = 15 := rfl
  obtain ⟨E', p', e, e1, e2, e3⟩ := due_loop (t := d) (x := .non) (pts 3 d) [] .non .nil (pts_vt 3 d h) (by rw [List.length_nil]; omega)
  refine ⟨E', ?_, e1, fun y => by rw [e3]; simp⟩
  apply runD_rt (st := [.live (.dic (dm E'))])
  show g_l_due_parts [.val d, .non, .non, .non] [] = _
  unfold g_l_due_parts
  refine sSeq_ok (sl1 := [.val d, .ref 0, .non, .non]) (st1 := [.live (.dic (dm []))]) rfl ?_
  refine sSeq_ok (sForI_ok (ds := pts 3 d) (st1 := [.live (.dic (dm []))]) (iSeq_list (e1 := .val (.list (pts 3 d))) (call1_val (a := d) rfl (l_parts_ok 3 5 d (by omega) (by omega) h)) rfl) e) ?_
  refine sRet_ok (e1 := .val (.tuple (outE E'))) (st1 := [.live (.dic (dm E'))]) (fin_ok rfl rfl (by omega) (by show 3 < 4; omega) e1 ?_) rfl
  rw [List.length_nil] at e2
  omega
end G03
/-! E3: the law's look at a thing -/
namespace G03
open PySem PySem.Spec PyProof.Rows L2 Px
section
variable {ps : List (Str × Int)} (hn : Nt ps) {d : PyData}
include hn
theorem told_no (g : ¬ 0 < plc ps 3 d) {w : Int} (h0 : 0 ≤ w) (h3 : w < 3) : d_l_told [.val (.int w), .val (nt ps), .val d] = .exc NoT [] := by
  apply runD_exc (sl := [.val (.int w), .val (nt ps), .val d]) (st := [])
  show g_l_told [.val (.int w), .val (nt ps), .val d] [] = _
  unfold g_l_told
  rcases (show w = 0 ∨ w = 1 ∨ w = 2 by omega) with rfl | rfl | rfl
  · exact sSeq_exc (sIf_ok (t2_ok (k := true) rfl rfl rfl rfl rfl) (sRet_exc (call2_exc (a := nt ps) (b := d) rfl rfl (places_no hn g))))
  · exact sSeq_ok (sIf_ok (t2_ok (k := false) rfl rfl rfl rfl rfl) rfl) (sRet_exc (eIf_ok (t2_ok (k := true) rfl rfl rfl rfl rfl) (bif_t rfl (call2_exc (a := nt ps) (b := d) rfl rfl (text_no hn g)))))
  · exact sSeq_ok (sIf_ok (t2_ok (k := false) rfl rfl rfl rfl rfl) rfl) (sRet_exc (eIf_ok (t2_ok (k := false) rfl rfl rfl rfl rfl) (bif_f rfl (call2_exc (a := nt ps) (b := d) rfl rfl (parts_no hn g)))))
theorem refused_ok (g : ¬ 0 < plc ps 3 d) {w : Int} (h0 : 0 ≤ w) (h3 : w < 3) : d_l_refused [.val (.int w), .val (nt ps), .val d] = .rt (.bool true) [] := by
  apply runD_rt (st := [])
  show g_l_refused [.val (.int w), .val (nt ps), .val d, .non] [] = _
  unfold g_l_refused
  refine sSeq_rt ?_
  have e := sExpr_exc (sl := [.val (.int w), .val (nt ps), .val d, .non]) (st := []) (st1 := []) (x := NoT) (f := eCall d_l_told [false, false, false] (aCons (eName 0) (aCons (eName 1) (aCons (eName 2) aNil)))) (call3_exc (a := .int w) (b := nt ps) (c := d) rfl rfl rfl (told_no hn g h0 h3))
  unfold sTryRet
  rw [e]
  rfl
end
end G03
namespace G03
open PySem PySem.Spec PyProof.Rows L2 Px
/-! ### the same, through and through -/
def Pln : Nat → PyData → Prop
  | 0 => fun d => (∃ s, d = .str s) ∨ ∃ i, d = .int i
  | k + 1 => fun d => (∃ s, d = .str s) ∨ (∃ i, d = .int i) ∨ ∃ ds, d = .tuple ds ∧ ds.length ≤ 1000 ∧ ∀ e ∈ ds, Pln k e
theorem Pln.mono : ∀ {k j : Nat} {d : PyData}, k ≤ j → Pln k d → Pln j d
  | 0, 0, _, _, h => h
  | 0, j + 1, _, _, h => h.elim .inl fun q => .inr (.inl q)
  | k + 1, 0, _, l, _ => absurd l (by omega)
  | k + 1, j + 1, d, l, h => by
    rcases h with h | h | ⟨ds, e, hl, hx⟩
    · exact .inl h
    · exact .inr (.inl h)
    · exact .inr (.inr ⟨ds, e, hl, fun x m => Pln.mono (by omega) (hx x m)⟩)
theorem VT.pln : ∀ {k : Nat} {d : PyData}, VT k d → Pln k d
  | 0, _, ⟨s, e, _⟩ => .inl ⟨s, e⟩
  | k + 1, d, h => by
    rcases h with ⟨s, e, _⟩ | ⟨w, xs, e, hw, hl, hx⟩
    · exact .inl ⟨s, e⟩
    · have := (ar_le w).2
      refine .inr (.inr ⟨_, e, by rw [List.length_cons]; omega, fun x m => ?_⟩)
      rcases List.mem_cons.mp m with q | q
      · subst q
        cases k with
        | zero => exact .inl ⟨w, rfl⟩
        | succ k => exact .inl ⟨w, rfl⟩
      · exact VT.pln (hx x q)
theorem zip_self : ∀ ds : List PyData, zipP ds ds = ds.map fun e => .tuple [e, e]
  | [] => rfl
  | d :: ds => by
    unfold zipP
    rw [zip_self ds]
    rfl
theorem is2_str (s : Str) : isD2 "str" "bool" (.str s) = some (.val (.bool true)) := by
  unfold isD2
  show (match kitB "str" "str", kitB "str" "bool" with
    | some a, some b => some (OR.val (.bool (a || b)))
    | _, _ => none) = _
  have h1 : kitB "str" "str" = some true := by decide +kernel
  have h2 : kitB "str" "bool" = some false := by decide +kernel
  rw [h1, h2]
  rfl
theorem is2_int (i : Int) : isD2 "str" "bool" (.int i) = some (.val (.bool false)) := by
  unfold isD2
  show (match kitB "int" "str", kitB "int" "bool" with
    | some a, some b => some (OR.val (.bool (a || b)))
    | _, _ => none) = _
  have h1 : kitB "int" "str" = some false := by decide +kernel
  have h2 : kitB "int" "bool" = some false := by decide +kernel
  rw [h1, h2]
  rfl
theorem eq_str_self (s : Str) : asB eqE (.str s) (.str s) = some (.val (.bool true)) := by
  show (some (decide (s = s))).map (fun c => OR.val (.bool c)) = _
  rw [decide_eq_true rfl]
  rfl
theorem eq_int_self (i : Int) : asB eqE (.int i) (.int i) = some (.val (.bool true)) := by
  show (some (i == i)).map (fun c => OR.val (.bool c)) = _
  rw [beq_self_eq_true]
  rfl
theorem same_ok : ∀ (k n : Nat) (d : PyData), k < n → Pln k d → d_l_same n [.val d, .val d] = .rt (.bool true) []
  | k, 0, _, h, _ => absurd h (by omega)
  | k, n + 1, d, hk, h => by
    show runD 4 (g_l_same (d_l_same n)) _ = _
    apply runD_rt (st := [])
    show g_l_same (d_l_same n) [.val d, .val d, .non, .non] [] = _
    unfold g_l_same
    have t1 : tst (u1 (isD "tuple") (eName 1)) [.val d, .val d, .non, .non] [] = .ok (asTup d) [] := tst_ok (u1_ok (r := .val (.bool (asTup d))) rfl rfl (is_tup d))
    have h' : (∃ s, d = .str s) ∨ (∃ i, d = .int i) ∨ ∃ j ds, k = j + 1 ∧ d = .tuple ds ∧ ds.length ≤ 1000 ∧ ∀ e ∈ ds, Pln j e := by
      cases k with
      | zero => exact h.elim .inl fun q => .inr (.inl q)
      | succ j =>
        rcases h with h | h | ⟨ds, e, hl, hx⟩
        · exact .inl h
        · exact .inr (.inl h)
        · exact .inr (.inr ⟨j, ds, rfl, e, hl, hx⟩)
    rcases h' with ⟨s, rfl⟩ | ⟨i, rfl⟩ | ⟨j, ds, rfl, rfl, hl, hx⟩
    · refine sSeq_ok (sIf_ok t1 rfl) ?_
      refine sSeq_ok (sIf_ok (t2_ok (k := false) rfl rfl rfl rfl rfl) rfl) ?_
      have i1 : u1 (isD2 "str" "bool") (eName 1) [.val (.str s), .val (.str s), .non, .non] [] = .ok (.val (.bool true)) [] := u1_ok (r := .val (.bool true)) rfl rfl (is2_str s)
      have i0 : u1 (isD2 "str" "bool") (eName 0) [.val (.str s), .val (.str s), .non, .non] [] = .ok (.val (.bool true)) [] := u1_ok (r := .val (.bool true)) rfl rfl (is2_str s)
      have b1 : u1 (isD "bool") (eName 1) [.val (.str s), .val (.str s), .non, .non] [] = .ok (.val (.bool false)) [] := u1_ok (r := .val (.bool false)) rfl rfl (is_bl (.str s))
      have b0 : u1 (isD "bool") (eName 0) [.val (.str s), .val (.str s), .non, .non] [] = .ok (.val (.bool false)) [] := u1_ok (r := .val (.bool false)) rfl rfl (is_bl (.str s))
      have bb : u2 (asB eqE) (u1 (isD "bool") (eName 0)) (u1 (isD "bool") (eName 1)) [.val (.str s), .val (.str s), .non, .non] [] = .ok (.val (.bool true)) [] := u2_ok (r := .val (.bool true)) b0 b1 rfl rfl rfl
      have ee : u2 (asB eqE) (eName 0) (eName 1) [.val (.str s), .val (.str s), .non, .non] [] = .ok (.val (.bool true)) [] := u2_ok (r := .val (.bool true)) rfl rfl rfl rfl (eq_str_self s)
      exact sSeq_rt (sIf_ok (tst_ok i1) (bif_t rfl (sRet_ok (e1 := .val (.bool true)) (st1 := []) (eAnd_ok i0 (bif_t rfl (eAnd_ok bb (bif_t rfl ee)))) rfl)))
    · refine sSeq_ok (sIf_ok t1 rfl) ?_
      refine sSeq_ok (sIf_ok (t2_ok (k := false) rfl rfl rfl rfl rfl) rfl) ?_
      have i1 : u1 (isD2 "str" "bool") (eName 1) [.val (.int i), .val (.int i), .non, .non] [] = .ok (.val (.bool false)) [] := u1_ok (r := .val (.bool false)) rfl rfl (is2_int i)
      refine sSeq_ok (sIf_ok (tst_ok i1) rfl) ?_
      have ii : u1 (isD "int") (eName 0) [.val (.int i), .val (.int i), .non, .non] [] = .ok (.val (.bool true)) [] := u1_ok (r := .val (.bool true)) rfl rfl (is_int (.int i))
      have ib : eNot (u1 (isD "bool") (eName 0)) [.val (.int i), .val (.int i), .non, .non] [] = .ok (.val (.bool true)) [] := eNot_ok (k := false) (u1_ok (r := .val (.bool false)) rfl rfl (is_bl (.int i)))
      have ee : u2 (asB eqE) (eName 0) (eName 1) [.val (.int i), .val (.int i), .non, .non] [] = .ok (.val (.bool true)) [] := u2_ok (r := .val (.bool true)) rfl rfl rfl rfl (eq_int_self i)
      exact sRet_ok (e1 := .val (.bool true)) (st1 := []) (eAnd_ok ii (bif_t rfl (eAnd_ok ib (bif_t rfl ee)))) rfl
    · have t0 : tNotF (tst (u1 (isD "tuple") (eName 0))) [.val (.tuple ds), .val (.tuple ds), .non, .non] [] = .ok false [] := tNotF_ok (tst_ok (u1_ok (r := .val (.bool true)) rfl rfl (is_tup (.tuple ds))))
      have l0 : un lenD (aCons (eName 0) aNil) [.val (.tuple ds), .val (.tuple ds), .non, .non] [] = .ok (.val (.int ds.length)) [] := un_ok (r := .val (.int ds.length)) (es := [.val (.tuple ds)]) (ds := [.tuple ds]) (aCons_ok (e1 := .val (.tuple ds)) (es := []) rfl rfl) rfl rfl
      have l1 : un lenD (aCons (eName 1) aNil) [.val (.tuple ds), .val (.tuple ds), .non, .non] [] = .ok (.val (.int ds.length)) [] := un_ok (r := .val (.int ds.length)) (es := [.val (.tuple ds)]) (ds := [.tuple ds]) (aCons_ok (e1 := .val (.tuple ds)) (es := []) rfl rfl) rfl rfl
      have nl : t2 neE (un lenD (aCons (eName 0) aNil)) (un lenD (aCons (eName 1) aNil)) [.val (.tuple ds), .val (.tuple ds), .non, .non] [] = .ok false [] := by
        refine t2_ok l0 l1 rfl rfl ?_
        show some (!((ds.length : Int) == (ds.length : Int))) = _
        rw [beq_self_eq_true]
        rfl
      have go := lcGo_map (h := gT 2 (gCons' (gN 2) (gCons' (gN 3) gNil'))) (t := tTrue) (f := eCall (d_l_same n) [false, false] (aCons (eName 2) (aCons (eName 3) aNil))) (sl0 := wipeS [.val (.tuple ds), .val (.tuple ds), .non, .non] [2, 3]) (st := []) (fun _ => true) (fun _ => .bool true) (ds.map fun e => .tuple [e, e]) (by
        intro x hxx
        obtain ⟨e, he, rfl⟩ := List.mem_map.mp hxx
        exact ⟨_, rfl, rfl, fun _ => ⟨.val (.bool true), call2_val (a := e) (b := e) rfl rfl (same_ok j n e (by omega) (hx e he)), rfl⟩⟩)
      rw [List.filter_eq_self.mpr (fun _ _ => rfl), List.map_map] at go
      have z : iZip (eName 0) (eName 1) [.val (.tuple ds), .val (.tuple ds), .non, .non] [] = .ok (ds.map fun e => .tuple [e, e]) [] := by
        show Re.ok (zipP ds ds) [] = _
        rw [zip_self]
      have lc := eLc_ok (vs := [2, 3]) z go (by rw [List.length_map]; unfold Lim; omega)
      refine sSeq_rt (sIf_ok t1 (bif_t rfl (sSeq_ok (sIf_ok (tOrF_ok t0 (bif_f rfl nl)) rfl) (sRet_ok (e1 := .val (.bool true)) (st1 := []) (un_ok (r := .val (.bool true)) (aCons_ok lc rfl) rfl ?_) rfl))))
      show (bools (ds.map fun _ => PyData.bool true)).map (fun bs => OR.val (.bool (bs.all id))) = _
      rw [bools_map (fun _ => true)]
      show some (OR.val (.bool ((ds.map fun _ => true).all id))) = _
      rw [List.all_map]
      simp
theorem nodup_len {α : Type} [DecidableEq α] : ∀ {a b : List α}, a.Nodup → (∀ x ∈ a, x ∈ b) → a.length ≤ b.length
  | [], _, _, _ => Nat.zero_le _
  | x :: a, b, ha, h => by
    have hx : x ∈ b := h x List.mem_cons_self
    have := nodup_len (b := b.erase x) (List.nodup_cons.mp ha).2 fun y hy => by
      refine (List.mem_erase_of_ne fun e => (List.nodup_cons.mp ha).1 (by rw [← e]; exact hy)).mpr (h y (List.mem_cons_of_mem _ hy))
    rw [List.length_erase_of_mem hx] at this
    have := List.length_pos_of_mem hx
    rw [List.length_cons]
    omega
/-! ### whether all is told of a thing as it is -/
section
variable {ps : List (Str × Int)} (h : Nt ps) {m j : Nat} {d : PyData} (hm : m ≤ 10) (hd : Sz m j d)
include h hm hd
abbrev rBody : FS := (sSeq (sSet false 4 (eCall d_is_term [false, false] (aCons (eName 0) (aCons (eName 1) aNil))))
    (sSeq (sIf (tOrF (tNotF (tst (u1 (isD "bool") (eName 4)))) (t2 neE (eName 4) (u2 (asB gtD) (eName 2) (eD (.int 0)))))
    (sRet (eD (.bool false)))
    sNext)
    (sIf (t2 eqE (eName 2) (eD (.int 0)))
    (sIf (t2 neE (eLc [7] (iR1 (eD (.int 3))) (gN 7) (tNotF (tst (eCall d_l_refused [false, false, false] (aCons (eName 7) (aCons (eName 0) (aCons (eName 1) aNil)))))) (eName 7)) (eLst aNil))
    (sRet (eD (.bool false)))
    sNext)
    (sSeq (sSet false 5 (eLst (aCons (eCall d_places_of [false, false] (aCons (eName 0) (aCons (eName 1) aNil))) (aCons (eCall d_term_text [false, false] (aCons (eName 0) (aCons (eName 1) aNil))) (aCons (eCall d_parts_of [false, false] (aCons (eName 0) (aCons (eName 1) aNil))) aNil)))))
    (sIf (tNotF (tst (eCall (d_l_same 8) [false, false] (aCons (un tupleD (aCons (eName 5) aNil)) (aCons (eTup (aCons (eName 2) (aCons (eCall (d_l_text 5) [false] (aCons (eName 1) aNil)) (aCons (eCall d_l_due_parts [false] (aCons (eName 1) aNil)) aNil)))) aNil)))))
    (sRet (eD (.bool false)))
    sNext)))))
theorem rBody_ok {S : Str} {s4 s5 s6 s7 : Sl} : ∃ s5', rBody [.val (nt ps), .val d, .val (.int (plc ps 3 d)), .val (.str S), s4, s5, s6, s7] [] = .nx [.val (nt ps), .val d, .val (.int (plc ps 3 d)), .val (.str S), .val (.bool (decide (0 < plc ps 3 d))), s5', s6, s7] [] := by
  have c4 : sSet false 4 (eCall d_is_term [false, false] (aCons (eName 0) (aCons (eName 1) aNil))) [.val (nt ps), .val d, .val (.int (plc ps 3 d)), .val (.str S), s4, s5, s6, s7] [] = .nx [.val (nt ps), .val d, .val (.int (plc ps 3 d)), .val (.str S), .val (.bool (decide (0 < plc ps 3 d))), s5, s6, s7] [] := sSet_ok (call2_val (a := nt ps) (b := d) rfl rfl (is_term_ok h d)) rfl
  have tb : tNotF (tst (u1 (isD "bool") (eName 4))) [.val (nt ps), .val d, .val (.int (plc ps 3 d)), .val (.str S), .val (.bool (decide (0 < plc ps 3 d))), s5, s6, s7] [] = .ok false [] := tNotF_ok (tst_ok (u1_ok (r := .val (.bool true)) rfl rfl (is_bl (.bool _))))
  have gt : u2 (asB gtD) (eName 2) (eD (.int 0)) [.val (nt ps), .val d, .val (.int (plc ps 3 d)), .val (.str S), .val (.bool (decide (0 < plc ps 3 d))), s5, s6, s7] [] = .ok (.val (.bool (decide (0 < plc ps 3 d)))) [] := u2_ok (r := .val (.bool (decide (0 < plc ps 3 d)))) rfl rfl rfl rfl rfl
  have ne : t2 neE (eName 4) (u2 (asB gtD) (eName 2) (eD (.int 0))) [.val (nt ps), .val d, .val (.int (plc ps 3 d)), .val (.str S), .val (.bool (decide (0 < plc ps 3 d))), s5, s6, s7] [] = .ok false [] := by
    refine t2_ok (e1 := .val (.bool (decide (0 < plc ps 3 d)))) rfl gt rfl rfl ?_
    show some (!(decide (0 < plc ps 3 d) == decide (0 < plc ps 3 d))) = _
    rw [beq_self_eq_true]
    rfl
  have tz : t2 eqE (eName 2) (eD (.int 0)) [.val (nt ps), .val d, .val (.int (plc ps 3 d)), .val (.str S), .val (.bool (decide (0 < plc ps 3 d))), s5, s6, s7] [] = .ok (plc ps 3 d == 0) [] := t2_ok rfl rfl rfl rfl rfl
  have rg := (plc_rng h.places 3 d).1
  by_cases g : 0 < plc ps 3 d
  · have z : (plc ps 3 d == 0) = false := beq_false_of_ne (by omega)
    rw [z] at tz
    have vt := vt_of h 3 d g
    obtain ⟨E, e1, e2, e3⟩ := parts_yes h g
    obtain ⟨F, f1, f2, f3⟩ := due_ok vt
    have EF : outE E = outE F := out_same e2 f2 fun x => (e3 x).trans (f3 x).symm
    have lst : eLst (aCons (eCall d_places_of [false, false] (aCons (eName 0) (aCons (eName 1) aNil))) (aCons (eCall d_term_text [false, false] (aCons (eName 0) (aCons (eName 1) aNil))) (aCons (eCall d_parts_of [false, false] (aCons (eName 0) (aCons (eName 1) aNil))) aNil))) [.val (nt ps), .val d, .val (.int (plc ps 3 d)), .val (.str S), .val (.bool (decide (0 < plc ps 3 d))), s5, s6, s7] [] = .ok (.new (.lst [.int (plc ps 3 d), .str (T3 d), .tuple (outE E)])) [] :=
      eLst_ok (es := [.val (.int (plc ps 3 d)), .val (.str (T3 d)), .val (.tuple (outE E))]) (ds := [.int (plc ps 3 d), .str (T3 d), .tuple (outE E)]) (st1 := []) (aCons_ok (e1 := .val (.int (plc ps 3 d))) (st1 := []) (call2_val (a := nt ps) (b := d) rfl rfl (places_of_ok h g)) (aCons_ok (e1 := .val (.str (T3 d))) (st1 := []) (call2_val (a := nt ps) (b := d) rfl rfl (text_yes h g)) (aCons_ok (e1 := .val (.tuple (outE E))) (st1 := []) (es := []) (call2_val (a := nt ps) (b := d) rfl rfl e1) rfl))) rfl (by show 3 ≤ Lim; decide)
    have s5n : sSet false 5 (eLst (aCons (eCall d_places_of [false, false] (aCons (eName 0) (aCons (eName 1) aNil))) (aCons (eCall d_term_text [false, false] (aCons (eName 0) (aCons (eName 1) aNil))) (aCons (eCall d_parts_of [false, false] (aCons (eName 0) (aCons (eName 1) aNil))) aNil)))) [.val (nt ps), .val d, .val (.int (plc ps 3 d)), .val (.str S), .val (.bool (decide (0 < plc ps 3 d))), s5, s6, s7] [] =
        .nx [.val (nt ps), .val d, .val (.int (plc ps 3 d)), .val (.str S), .val (.bool (decide (0 < plc ps 3 d))), .val (.list [.int (plc ps 3 d), .str (T3 d), .tuple (outE E)]), s6, s7] [] := sSet_ok lst rfl
    have tup : eTup (aCons (eName 2) (aCons (eCall (d_l_text 5) [false] (aCons (eName 1) aNil)) (aCons (eCall d_l_due_parts [false] (aCons (eName 1) aNil)) aNil))) [.val (nt ps), .val d, .val (.int (plc ps 3 d)), .val (.str S), .val (.bool (decide (0 < plc ps 3 d))), .val (.list [.int (plc ps 3 d), .str (T3 d), .tuple (outE E)]), s6, s7] [] = .ok (.val (.tuple [.int (plc ps 3 d), .str (T3 d), .tuple (outE E)])) [] := by
      rw [EF]
      exact eTup_ok (es := [.val (.int (plc ps 3 d)), .val (.str (T3 d)), .val (.tuple (outE F))]) (ds := [.int (plc ps 3 d), .str (T3 d), .tuple (outE F)]) (st1 := []) (aCons_ok (e1 := .val (.int (plc ps 3 d))) (st1 := []) rfl (aCons_ok (e1 := .val (.str (T3 d))) (st1 := []) (call1_val (a := d) rfl (ltext_ok 3 5 d (by omega) (by omega) vt)) (aCons_ok (e1 := .val (.tuple (outE F))) (st1 := []) (es := []) (call1_val (a := d) rfl f1) rfl))) rfl (by show 3 ≤ Lim; decide)
    have pl : Pln 5 (.tuple [.int (plc ps 3 d), .str (T3 d), .tuple (outE E)]) := by
      refine .inr (.inr ⟨_, rfl, by show 3 ≤ 1000; omega, fun x hx => ?_⟩)
      simp only [List.mem_cons, List.not_mem_nil, or_false] at hx
      rcases hx with rfl | rfl | rfl
      · exact .inr (.inl ⟨_, rfl⟩)
      · exact .inl ⟨_, rfl⟩
      · have lenE : (outE E).length ≤ 1000 := by
          unfold outE
          rw [List.length_map, (sortS_perm _).length_eq, List.length_map]
          have sub : ∀ x ∈ E.map T3, x ∈ (pts 3 d).map T3 := fun x hx => by
            obtain ⟨y, hy, rfl⟩ := List.mem_map.mp hx
            exact List.mem_map_of_mem ((e3 y).mp hy)
          have p15 := (pts_len 3 d vt).2
          have p15' : PL 3 = 15 := rfl
          have := nodup_len e2.nodup sub
          rw [List.length_map, List.length_map] at this
          omega
        refine .inr (.inr ⟨_, rfl, lenE, fun x hx => ?_⟩)
        unfold outE at hx
        obtain ⟨t, ht, rfl⟩ := List.mem_map.mp hx
        obtain ⟨e, he, rfl⟩ := List.mem_map.mp ((sortS_perm _).mem_iff.mp ht)
        rw [val_dm e2 he]
        exact (e2.each e he).pln
    refine ⟨_, sSeq_ok c4 (sSeq_ok (sIf_ok (tOrF_ok tb (bif_f rfl ne)) rfl) (sIf_ok tz (bif_f rfl (sSeq_ok s5n (sIf_ok (tNotF_ok (tst_ok (k := true) (call2_val (a := .tuple [.int (plc ps 3 d), .str (T3 d), .tuple (outE E)]) (b := .tuple [.int (plc ps 3 d), .str (T3 d), .tuple (outE E)]) ?_ tup (same_ok 5 8 _ (by omega) pl)))) rfl)))))⟩
    exact un_ok (r := .val (.tuple [.int (plc ps 3 d), .str (T3 d), .tuple (outE E)])) (es := [.val (.list [.int (plc ps 3 d), .str (T3 d), .tuple (outE E)])]) (ds := [.list [.int (plc ps 3 d), .str (T3 d), .tuple (outE E)]]) (aCons_ok (e1 := .val (.list [.int (plc ps 3 d), .str (T3 d), .tuple (outE E)])) (es := []) rfl rfl) rfl rfl
  · have e0 : plc ps 3 d = 0 := by omega
    have z : (plc ps 3 d == 0) = true := by rw [e0]; rfl
    rw [z] at tz
    have go := lcGo_map (h := gN 7) (t := tNotF (tst (eCall d_l_refused [false, false, false] (aCons (eName 7) (aCons (eName 0) (aCons (eName 1) aNil)))))) (f := eName 7) (sl0 := wipeS [.val (nt ps), .val d, .val (.int (plc ps 3 d)), .val (.str S), .val (.bool (decide (0 < plc ps 3 d))), s5, s6, s7] [7]) (st := []) (fun _ => false) (fun x => x) (rngL 0 3) (by
      intro x hx
      unfold rngL at hx
      obtain ⟨i, hi, rfl⟩ := List.mem_map.mp hx
      have hi3 : i < 3 := List.mem_range.mp hi
      exact ⟨_, rfl, tNotF_ok (k := true) (tst_ok (call3_val (a := .int (0 + (i : Int))) (b := nt ps) (c := d) rfl rfl rfl (refused_ok h g (by omega) (by omega)))), fun z => nomatch z⟩)
    rw [List.filter_eq_nil_iff.mpr (fun _ _ => Bool.false_ne_true), List.map_nil] at go
    have lc : eLc [7] (iR1 (eD (.int 3))) (gN 7) (tNotF (tst (eCall d_l_refused [false, false, false] (aCons (eName 7) (aCons (eName 0) (aCons (eName 1) aNil)))))) (eName 7) [.val (nt ps), .val d, .val (.int (plc ps 3 d)), .val (.str S), .val (.bool (decide (0 < plc ps 3 d))), s5, s6, s7] [] = .ok (.new (.lst [])) [] :=
      eLc_ok (ds := rngL 0 3) (st1 := []) (iR1_ok (n := 3) rfl ⟨by omega, by omega⟩) go (by decide)
    have te : t2 neE (eLc [7] (iR1 (eD (.int 3))) (gN 7) (tNotF (tst (eCall d_l_refused [false, false, false] (aCons (eName 7) (aCons (eName 0) (aCons (eName 1) aNil)))))) (eName 7)) (eLst aNil) [.val (nt ps), .val d, .val (.int (plc ps 3 d)), .val (.str S), .val (.bool (decide (0 < plc ps 3 d))), s5, s6, s7] [] = .ok false [] := t2_ok (e2 := .new (.lst [])) lc rfl rfl rfl (by decide +kernel)
    exact ⟨s5, sSeq_ok c4 (sSeq_ok (sIf_ok (tOrF_ok tb (bif_f rfl ne)) rfl) (sIf_ok tz (bif_t rfl (sIf_ok te rfl))))⟩
theorem right_ok {S : Str} (hr : reprD [d] = some (.val (.str S))) : d_l_right [.val (nt ps), .val d] = .rt (.bool true) [] := by
  apply runD_rt (st := [])
  show g_l_right [.val (nt ps), .val d, .non, .non, .non, .non, .non, .non] [] = _
  unfold g_l_right
  have c2 : eCall (d_l_places 5) [false, false, false] (aCons (eName 0) (aCons (eName 1) (aCons (eD (.int 3)) aNil))) [.val (nt ps), .val d, .non, .non, .non, .non, .non, .non] [] = .ok (.val (.int (plc ps 3 d))) [] := call3_val (a := nt ps) (b := d) (c := .int (3 : Nat)) rfl rfl rfl (l_places_ok h.names h.places h.three hm 3 5 j d (by omega) hd)
  refine sSeq_ok (sSet_ok c2 rfl) ?_
  have rp : ∀ s2 s3 s4 s5 s6 s7 : Sl, un reprD (aCons (eName 1) aNil) [.val (nt ps), .val d, s2, s3, s4, s5, s6, s7] [] = .ok (.val (.str S)) [] := fun s2 s3 s4 s5 s6 s7 => un_ok (r := .val (.str S)) (es := [.val d]) (ds := [d]) (aCons_ok (e1 := .val d) (es := []) rfl rfl) rfl hr
  refine sSeq_ok (sSet_ok (rp _ _ _ _ _ _) rfl) ?_
  obtain ⟨x1, b1⟩ := rBody_ok h hm hd (S := S) (s4 := .non) (s5 := .non) (s6 := .val (.int 0)) (s7 := .non)
  obtain ⟨x2, b2⟩ := rBody_ok h hm hd (S := S) (s4 := .val (.bool (decide (0 < plc ps 3 d)))) (s5 := x1) (s6 := .val (.int 1)) (s7 := .non)
  have ml : sFor (gN 6) rBody (rngL 0 2) [.val (nt ps), .val d, .val (.int (plc ps 3 d)), .val (.str S), .non, .non, .non, .non] [] = .nx [.val (nt ps), .val d, .val (.int (plc ps 3 d)), .val (.str S), .val (.bool (decide (0 < plc ps 3 d))), x2, .val (.int 1), .non] [] :=
    sFor_cons (d := .int 0) (ds := [.int 1]) rfl b1 (sFor_cons (d := .int 1) (ds := []) rfl b2 rfl)
  refine sSeq_ok (sForI_ok (ds := rngL 0 2) (st1 := []) (iR1_ok (n := 2) rfl ⟨by omega, by omega⟩) ml) ?_
  exact sRet_ok (e1 := .val (.bool true)) (st1 := []) (u2_ok (r := .val (.bool true)) (e2 := .val (.str S)) (rp _ _ _ _ _ _) rfl rfl rfl (eq_str_self S)) rfl
end
end G03
namespace G03
open PySem PySem.Spec PyProof.Rows L2 Px
/-! ### any term -/
section
variable {ps : List (Str × Int)} (hn : Nt ps)
include hn
end
section
variable {ps : List (Str × Int)} (hn : Nt ps)
include hn
end
end G03
namespace G03
open PySem PySem.Spec PyProof.Rows L2 Px PySem.Builtin PySem.Builtin.Str
/-! ### of what size things are -/
theorem text_atom {d : PyData} (h : VT 3 d) : Atom 0 (.str (T3 d)) := by
  refine ⟨?_, low_tx (chs_low 3 d h)⟩
  show (tx (chs 3 d)).length ≤ _
  rw [tx_len]
  have := chs_len 3 d h
  have e : TL 3 = 120 := rfl
  omega
def Gd (d : PyData) : Prop := (∃ m j, m ≤ 10 ∧ Sz m j d) ∧ ∃ S, reprD [d] = some (.val (.str S))
theorem gd_of {m j : Nat} {d : PyData} (hm : m ≤ 2) (h : Sz m j d) (b : Bd m j ≤ Lim) (hj : j ≤ 50) : Gd d := by
  have t := sz_told hm h
  refine ⟨⟨m, j, by omega, h⟩, d.shown, ?_⟩
  show (if d.showable = true ∧ d.shown.length ≤ Lim ∧ d.depth ≤ 60 ∧ PyData.strOk d.shown = true then some (OR.val (.str d.shown)) else none) = _
  rw [if_pos ⟨t.show', Nat.le_trans t.len b, by have := t.deep; omega, t.ok⟩]
theorem gd_26 {m j : Nat} {d : PyData} (hm : m ≤ 2) (hj : j ≤ 6) (h : Sz m j d) : Gd d := gd_of (m := 2) (j := 6) (by omega) (Sz.mono hm hj h) (by decide) (by omega)
theorem gd_17 {m j : Nat} {d : PyData} (hm : m ≤ 1) (hj : j ≤ 7) (h : Sz m j d) : Gd d := gd_of (m := 1) (j := 7) (by omega) (Sz.mono hm hj h) (by decide) (by omega)
/-! ### a word more about it -/
theorem about_ok {ps : List (Str × Int)} (hn : Nt ps) {m : Nat} {d : PyData} {n : Int} {o : MO} (hd : Sz m 6 d) (h : PoolAt n o) (hc : n < 700000) : ∃ (e : PyData) (o' : MO), d_l_about [.io o, .val (nt ps), .val d] = .rt e [o'] ∧ Sz m 7 e ∧ PoolAt (n + 13) o' := by
  obtain ⟨t, p, o1, e1, vt, p1⟩ := term_ok hn (deep := 2) (by omega) h (by omega)
  have ct : eCall d_l_term [true, false, false] (aCons (eName 0) (aCons (eName 1) (aCons (eD (.int 2)) aNil))) [.ref 0, .val (nt ps), .val d, .non, .non] [.io o] = .ok (.val (.tuple [t, .int p])) [.io o1] :=
    eCall_ok (es := [.bor 0, .val (nt ps), .val (.int 2)]) (rs := [.inr 0, .inl (nt ps), .inl (.int 2)]) (as := [.io o, .val (nt ps), .val (.int 2)]) (st1 := [.io o]) (st2 := [.io o]) (ns := [0]) (os := [o1]) rfl rfl rfl (by decide) e1 rfl
  have s3 : u2 ixD (eCall d_l_term [true, false, false] (aCons (eName 0) (aCons (eName 1) (aCons (eD (.int 2)) aNil)))) (eD (.int 0)) [.ref 0, .val (nt ps), .val d, .non, .non] [.io o] = .ok (.val t) [.io o1] := u2_ok (r := .val t) ct rfl rfl rfl rfl
  obtain ⟨w0, o2, e2, w1, w2, p2⟩ := etake (sl := [.ref 0, .val (nt ps), .val d, .val t, .non]) (r := []) (f := eD (.int 6)) rfl rfl p1 (by omega) (by omega) (by omega)
  obtain ⟨w, rfl⟩ := Int.eq_ofNat_of_zero_le w1
  have w6 : w < (W6.map PyData.str).length := by show w < 6; omega
  obtain ⟨x, hx⟩ : ∃ x, (W6.map PyData.str)[w] = x := ⟨_, rfl⟩
  have xm : x ∈ W6.map PyData.str := by rw [← hx]; exact List.getElem_mem w6
  obtain ⟨wd, hw, rfl⟩ := List.mem_map.mp xm
  have s4 : u2 ixD (eLst (aCons (eD (.str "not")) (aCons (eD (.str "both")) (aCons (eD (.str "either")) (aCons (eD (.str "turned")) (aCons (eD (.str "chain")) (aCons (eD (.str "some")) aNil))))))) (eCall d_l_take [true, false] (aCons (eName 0) (aCons (eD (.int 6)) aNil))) [.ref 0, .val (nt ps), .val d, .val t, .non] [.io o1] = .ok (.val (.str wd)) [.io o2] := by
    refine u2_ok (r := .val (.str wd)) (e1 := .new (.lst (W6.map PyData.str))) (st1 := [.io o1]) rfl e2 rfl rfl ?_
    exact (ix_nat w6).1.trans (by rw [hx])
  obtain ⟨c0, o3, e3, c1, c2, p3⟩ := etake (sl := [.ref 0, .val (nt ps), .val d, .val t, .val (.str wd)]) (r := []) (f := eD (.int 4)) rfl rfl p2 (by omega) (by omega) (by omega)
  obtain ⟨c, rfl⟩ := Int.eq_ofNat_of_zero_le c1
  have c4 : c < [PyData.tuple [.str wd, d], .tuple [.str wd, d, t], .tuple [.str wd, t, d], .tuple [.str wd, d, d]].length := by show c < 4; omega
  obtain ⟨e, he⟩ : ∃ e, [PyData.tuple [.str wd, d], .tuple [.str wd, d, t], .tuple [.str wd, t, d], .tuple [.str wd, d, d]][c] = e := ⟨_, rfl⟩
  have wz : Sz m 6 (.str wd) := sz_atom (word_atom hw)
  have tz : Sz m 6 t := Sz.mono (by omega) (by omega) (vt_sz0 (by omega) vt)
  have ez : Sz m 7 e := by
    have em : e ∈ [PyData.tuple [.str wd, d], .tuple [.str wd, d, t], .tuple [.str wd, t, d], .tuple [.str wd, d, d]] := by rw [← he]; exact List.getElem_mem c4
    simp only [List.mem_cons, List.not_mem_nil, or_false] at em
    rcases em with rfl | rfl | rfl | rfl
    · refine sz_tup (by show 2 ≤ G03.wd (6 + 1) + m; have e7 : G03.wd (6 + 1) = 4 := rfl; omega) fun y hy => ?_
      simp only [List.mem_cons, List.not_mem_nil, or_false] at hy
      rcases hy with rfl | rfl
      · exact wz
      · exact hd
    all_goals
      refine sz_tup (by show 3 ≤ G03.wd (6 + 1) + m; have e7 : G03.wd (6 + 1) = 4 := rfl; omega) fun y hy => ?_
      simp only [List.mem_cons, List.not_mem_nil, or_false] at hy
      rcases hy with rfl | rfl | rfl <;> assumption
  refine ⟨e, o3, ?_, ez, p3.mono (by omega)⟩
  apply runD_rt (st := [.io o3])
  show g_l_about [.ref 0, .val (nt ps), .val d, .non, .non] [.io o] = _
  unfold g_l_about
  refine sSeq_ok (sSet_ok s3 rfl) (sSeq_ok (sSet_ok s4 rfl) (sRet_ok (e1 := .val e) (st1 := [.io o3]) ?_ rfl))
  refine u2_ok (r := .val e) (e1 := .new (.lst [PyData.tuple [.str wd, d], .tuple [.str wd, d, t], .tuple [.str wd, t, d], .tuple [.str wd, d, d]])) (st1 := [.io o2]) rfl e3 rfl rfl ?_
  exact (ix_nat c4).1.trans (by rw [he])
end G03
namespace G03
open PySem PySem.Spec PyProof.Rows L2 Px PySem.Builtin PySem.Builtin.Str
abbrev lsl (sc cs : Sl) (n : Nat) (nt : PyData) (tg s5 s6 s7 s8 s9 s10 s11 : Sl) : Sls := [sc, cs, .ref n, .val nt, tg, s5, s6, s7, s8, s9, s10, s11]
abbrev sBody : FS := (sSeq (sSet false 5 (u2 ixD (eCall d_l_term [true, false, false] (aCons (eName 2) (aCons (eName 3) (aCons (eD (.int 3)) aNil)))) (eD (.int 0))))
    (sSeq (sSet false 6 (eCall (d_l_spoilt 5) [true, false, false] (aCons (eName 2) (aCons (eName 5) (aCons (eD (.int 4)) aNil)))))
    (sSeq (sSet false 4 (u2 addD (eName 4) (eLst (aCons (eName 5) (aCons (eName 6) (aCons (eCall (d_l_spoilt 5) [true, false, false] (aCons (eName 2) (aCons (eName 6) (aCons (eD (.int 4)) aNil)))) (aCons (eTup (aCons (eD (.str "not")) (aCons (eName 5) aNil))) aNil)))))))
    (sSeq (sSet false 4 (u2 addD (eName 4) (eLst (aCons (eCall (d_l_text 5) [false] (aCons (eName 5) aNil)) (aCons (eTup (aCons (eD (.str "not")) (aCons (eCall (d_l_text 5) [false] (aCons (eName 5) aNil)) aNil))) (aCons (eTup (aCons (eD (.str "both")) (aCons (eName 5) (aCons (eCall (d_l_text 5) [false] (aCons (eName 5) aNil)) aNil)))) aNil))))))
    (sSet false 4 (u2 addD (eName 4) (eLst (aCons (eCall d_l_about [true, false, false] (aCons (eName 2) (aCons (eName 3) (aCons (eName 5) aNil)))) (aCons (eCall d_l_about [true, false, false] (aCons (eName 2) (aCons (eName 3) (aCons (eName 6) aNil)))) aNil)))))))))
abbrev qBody : FS := (sIf (tNotF (tst (eCall d_l_right [false, false] (aCons (eName 3) (aCons (eName 8) aNil)))))
    (sRet (eD (.bool false)))
    sNext)
abbrev kBody : FS := (sSeq (sSet true 2 (eCall d_l_pool [false, false] (aCons (eName 1) (aCons (eName 9) aNil))))
    (sSeq (sSet false 3 (eCall d_l_notions [true] (aCons (eName 2) aNil)))
    (sSeq (sSet false 4 (u2 addD (eLc [10, 11] (iSeq (eName 3)) (gT 2 (gCons' (gN 10) (gCons' (gN 11) gNil'))) tTrue (eName 10)) (eLst (aCons (eCall d_l_odd [true] (aCons (eName 2) aNil)) (aCons (u2 ixD (eName 3) (eD (.int 0))) (aCons (eD (.str "zzzzzzzzz")) (aCons (eD (.str "not")) (aCons (eTup (aCons (eD (.str "not")) aNil)) aNil))))))))
    (sSeq (sForI (iR1 (eD (.int 6))) (gN 7) sBody)
    (sForI (iSeq (eName 4)) (gN 8) qBody)))))
theorem two_sz {m n : Nat} {w : Str} {x : PyData} (hw : w ∈ W6) (hx : Sz m n x) : Sz m (n + 1) (.tuple [.str w, x]) := by
  refine sz_tup (by have := (wd_le (n + 1)).1; show 2 ≤ wd (n + 1) + m; omega) fun y hy => ?_
  simp only [List.mem_cons, List.not_mem_nil, or_false] at hy
  rcases hy with rfl | rfl
  · exact sz_atom (word_atom hw)
  · exact hx
theorem sBody_ok {ps : List (Str × Int)} (hn : Nt ps) {sc cs s5 s6 s7 s8 s9 s10 s11 : Sl} {st : Sto} {L : List PyData} {o : MO} {n : Int} (hL : ∀ e ∈ L, Gd e) (hl : L.length ≤ 500) (h : PoolAt n o) (hc : n < 500000) :
    ∃ (x5 x6 : Sl) (M : List PyData) (o' : MO), sBody (lsl sc cs st.length (nt ps) (.val (.list L)) s5 s6 s7 s8 s9 s10 s11) (SP st o) = .nx (lsl sc cs st.length (nt ps) (.val (.list (L ++ M))) x5 x6 s7 s8 s9 s10 s11) (SP st o') ∧ M.length = 9 ∧ (∀ e ∈ M, Gd e) ∧ PoolAt (n + 67) o' := by
  obtain ⟨t, p, o1, e1, vt, p1⟩ := term_ok hn (deep := 3) (by omega) h (by omega)
  obtain ⟨d1, o2, e2, z2, p2⟩ := spoilt_ok 4 0 o1 (n + 11) t (by omega) (Sz.mono (by omega) (by omega) (vt_sz0 (by omega) vt)) p1 (by omega) (by omega)
  obtain ⟨d2, o3, e3, z3, p3⟩ := spoilt_ok 4 1 o2 _ d1 (by omega) z2 p2 (by omega) (by omega)
  obtain ⟨a1, o4, e4, z4, p4⟩ := about_ok hn (m := 0) (d := t) (Sz.mono (by omega) (by omega) (vt_sz0 (by omega) vt)) p3 (by omega)
  obtain ⟨a2, o5, e5, z5, p5⟩ := about_ok hn (m := 1) (d := d1) z2 p4 (by omega)
  have x1 : eCall d_l_term [true, false, false] (aCons (eName 2) (aCons (eName 3) (aCons (eD (.int 3)) aNil))) (lsl sc cs st.length (nt ps) (.val (.list L)) s5 s6 s7 s8 s9 s10 s11) (SP st o) = .ok (.val (.tuple [t, .int p])) (SP st o1) := callP (vs := [nt ps, .int 3]) rfl rfl rfl e1
  have y1 : u2 ixD (eCall d_l_term [true, false, false] (aCons (eName 2) (aCons (eName 3) (aCons (eD (.int 3)) aNil)))) (eD (.int 0)) (lsl sc cs st.length (nt ps) (.val (.list L)) s5 s6 s7 s8 s9 s10 s11) (SP st o) = .ok (.val t) (SP st o1) := u2_ok (r := .val t) x1 rfl rfl rfl rfl
  have x2 : eCall (d_l_spoilt 5) [true, false, false] (aCons (eName 2) (aCons (eName 5) (aCons (eD (.int 4)) aNil))) (lsl sc cs st.length (nt ps) (.val (.list L)) (.val t) s6 s7 s8 s9 s10 s11) (SP st o1) = .ok (.val d1) (SP st o2) := callP (vs := [t, .int 4]) rfl rfl rfl e2
  have x3 : eCall (d_l_spoilt 5) [true, false, false] (aCons (eName 2) (aCons (eName 6) (aCons (eD (.int 4)) aNil))) (lsl sc cs st.length (nt ps) (.val (.list L)) (.val t) (.val d1) s7 s8 s9 s10 s11) (SP st o2) = .ok (.val d2) (SP st o3) := callP (vs := [d1, .int 4]) rfl rfl rfl e3
  have tn : eTup (aCons (eD (.str "not")) (aCons (eName 5) aNil)) (lsl sc cs st.length (nt ps) (.val (.list L)) (.val t) (.val d1) s7 s8 s9 s10 s11) (SP st o3) = .ok (.val (.tuple [.str "not", t])) (SP st o3) := eTup_ok (es := [.val (.str "not"), .val t]) (ds := [.str "not", t]) (st1 := SP st o3) rfl rfl (by show 2 ≤ Lim; decide)
  have y3 : eLst (aCons (eName 5) (aCons (eName 6) (aCons (eCall (d_l_spoilt 5) [true, false, false] (aCons (eName 2) (aCons (eName 6) (aCons (eD (.int 4)) aNil)))) (aCons (eTup (aCons (eD (.str "not")) (aCons (eName 5) aNil))) aNil)))) (lsl sc cs st.length (nt ps) (.val (.list L)) (.val t) (.val d1) s7 s8 s9 s10 s11) (SP st o2) = .ok (.new (.lst [t, d1, d2, .tuple [.str "not", t]])) (SP st o3) :=
    eLst_ok (es := [.val t, .val d1, .val d2, .val (.tuple [.str "not", t])]) (ds := [t, d1, d2, .tuple [.str "not", t]]) (st1 := SP st o3) (aCons_ok (e1 := .val t) (st1 := SP st o2) rfl (aCons_ok (e1 := .val d1) (st1 := SP st o2) rfl (aCons_ok (e1 := .val d2) x3 (aCons_ok (e1 := .val (.tuple [.str "not", t])) (es := []) tn rfl)))) rfl (by show 4 ≤ Lim; decide)
  have w3 : u2 addD (eName 4) (eLst (aCons (eName 5) (aCons (eName 6) (aCons (eCall (d_l_spoilt 5) [true, false, false] (aCons (eName 2) (aCons (eName 6) (aCons (eD (.int 4)) aNil)))) (aCons (eTup (aCons (eD (.str "not")) (aCons (eName 5) aNil))) aNil))))) (lsl sc cs st.length (nt ps) (.val (.list L)) (.val t) (.val d1) s7 s8 s9 s10 s11) (SP st o2) = .ok (.new (.lst (L ++ [t, d1, d2, .tuple [.str "not", t]]))) (SP st o3) :=
    u2_ok (r := .new (.lst (L ++ [t, d1, d2, .tuple [.str "not", t]]))) (e1 := .val (.list L)) (a := .list L) (st1 := SP st o2) rfl y3 rfl rfl (addL (by show L.length + 4 ≤ 1000; omega))
  have tx : ∀ (K : List PyData), eCall (d_l_text 5) [false] (aCons (eName 5) aNil) (lsl sc cs st.length (nt ps) (.val (.list K)) (.val t) (.val d1) s7 s8 s9 s10 s11) (SP st o3) = .ok (.val (.str (T3 t))) (SP st o3) := fun K => call1_val (a := t) rfl (ltext_ok 3 5 t (by omega) (by omega) vt)
  have y4 : eLst (aCons (eCall (d_l_text 5) [false] (aCons (eName 5) aNil)) (aCons (eTup (aCons (eD (.str "not")) (aCons (eCall (d_l_text 5) [false] (aCons (eName 5) aNil)) aNil))) (aCons (eTup (aCons (eD (.str "both")) (aCons (eName 5) (aCons (eCall (d_l_text 5) [false] (aCons (eName 5) aNil)) aNil)))) aNil))) (lsl sc cs st.length (nt ps) (.val (.list (L ++ [t, d1, d2, .tuple [.str "not", t]]))) (.val t) (.val d1) s7 s8 s9 s10 s11) (SP st o3) = .ok (.new (.lst [.str (T3 t), .tuple [.str "not", .str (T3 t)], .tuple [.str "both", t, .str (T3 t)]])) (SP st o3) := by
    have u1 : eTup (aCons (eD (.str "not")) (aCons (eCall (d_l_text 5) [false] (aCons (eName 5) aNil)) aNil)) (lsl sc cs st.length (nt ps) (.val (.list (L ++ [t, d1, d2, .tuple [.str "not", t]]))) (.val t) (.val d1) s7 s8 s9 s10 s11) (SP st o3) = .ok (.val (.tuple [.str "not", .str (T3 t)])) (SP st o3) := eTup_ok (es := [.val (.str "not"), .val (.str (T3 t))]) (ds := [.str "not", .str (T3 t)]) (st1 := SP st o3) (aCons_ok (e1 := .val (.str "not")) (st1 := SP st o3) rfl (aCons_ok (e1 := .val (.str (T3 t))) (es := []) (tx _) rfl)) rfl (by show 2 ≤ Lim; decide)
    have u2 : eTup (aCons (eD (.str "both")) (aCons (eName 5) (aCons (eCall (d_l_text 5) [false] (aCons (eName 5) aNil)) aNil))) (lsl sc cs st.length (nt ps) (.val (.list (L ++ [t, d1, d2, .tuple [.str "not", t]]))) (.val t) (.val d1) s7 s8 s9 s10 s11) (SP st o3) = .ok (.val (.tuple [.str "both", t, .str (T3 t)])) (SP st o3) := eTup_ok (es := [.val (.str "both"), .val t, .val (.str (T3 t))]) (ds := [.str "both", t, .str (T3 t)]) (st1 := SP st o3) (aCons_ok (e1 := .val (.str "both")) (st1 := SP st o3) rfl (aCons_ok (e1 := .val t) (st1 := SP st o3) rfl (aCons_ok (e1 := .val (.str (T3 t))) (es := []) (tx _) rfl))) rfl (by show 3 ≤ Lim; decide)
    exact eLst_ok (es := [.val (.str (T3 t)), .val (.tuple [.str "not", .str (T3 t)]), .val (.tuple [.str "both", t, .str (T3 t)])]) (ds := [.str (T3 t), .tuple [.str "not", .str (T3 t)], .tuple [.str "both", t, .str (T3 t)]]) (st1 := SP st o3) (aCons_ok (e1 := .val (.str (T3 t))) (st1 := SP st o3) (tx _) (aCons_ok (e1 := .val (.tuple [.str "not", .str (T3 t)])) (st1 := SP st o3) u1 (aCons_ok (e1 := .val (.tuple [.str "both", t, .str (T3 t)])) (es := []) u2 rfl))) rfl (by show 3 ≤ Lim; decide)
  have w4 := u2_ok (g := addD) (f1 := eName 4) (sl := lsl sc cs st.length (nt ps) (.val (.list (L ++ [t, d1, d2, .tuple [.str "not", t]]))) (.val t) (.val d1) s7 s8 s9 s10 s11) (st := SP st o3) (st1 := SP st o3) (st2 := SP st o3) (r := .new (.lst ((L ++ [t, d1, d2, .tuple [.str "not", t]]) ++ [.str (T3 t), .tuple [.str "not", .str (T3 t)], .tuple [.str "both", t, .str (T3 t)]]))) (e1 := .val (.list (L ++ [t, d1, d2, .tuple [.str "not", t]]))) (a := .list (L ++ [t, d1, d2, .tuple [.str "not", t]])) rfl y4 rfl rfl (addL (by simp only [List.length_append, List.length_cons, List.length_nil]; omega))
  have x4 : ∀ (K : List PyData), eCall d_l_about [true, false, false] (aCons (eName 2) (aCons (eName 3) (aCons (eName 5) aNil))) (lsl sc cs st.length (nt ps) (.val (.list K)) (.val t) (.val d1) s7 s8 s9 s10 s11) (SP st o3) = .ok (.val a1) (SP st o4) := fun K => callP (vs := [nt ps, t]) rfl rfl rfl e4
  have x5 : ∀ (K : List PyData), eCall d_l_about [true, false, false] (aCons (eName 2) (aCons (eName 3) (aCons (eName 6) aNil))) (lsl sc cs st.length (nt ps) (.val (.list K)) (.val t) (.val d1) s7 s8 s9 s10 s11) (SP st o4) = .ok (.val a2) (SP st o5) := fun K => callP (vs := [nt ps, d1]) rfl rfl rfl e5
  have y5 : ∀ (K : List PyData), eLst (aCons (eCall d_l_about [true, false, false] (aCons (eName 2) (aCons (eName 3) (aCons (eName 5) aNil)))) (aCons (eCall d_l_about [true, false, false] (aCons (eName 2) (aCons (eName 3) (aCons (eName 6) aNil)))) aNil)) (lsl sc cs st.length (nt ps) (.val (.list K)) (.val t) (.val d1) s7 s8 s9 s10 s11) (SP st o3) = .ok (.new (.lst [a1, a2])) (SP st o5) := fun K =>
    eLst_ok (es := [.val a1, .val a2]) (ds := [a1, a2]) (st1 := SP st o5) (aCons_ok (e1 := .val a1) (x4 K) (aCons_ok (e1 := .val a2) (es := []) (x5 K) rfl)) rfl (by show 2 ≤ Lim; decide)
  have w5 := u2_ok (g := addD) (f1 := eName 4) (sl := lsl sc cs st.length (nt ps) (.val (.list ((L ++ [t, d1, d2, .tuple [.str "not", t]]) ++ [.str (T3 t), .tuple [.str "not", .str (T3 t)], .tuple [.str "both", t, .str (T3 t)]]))) (.val t) (.val d1) s7 s8 s9 s10 s11) (st := SP st o3) (st1 := SP st o3) (st2 := SP st o5) (r := .new (.lst (((L ++ [t, d1, d2, .tuple [.str "not", t]]) ++ [.str (T3 t), .tuple [.str "not", .str (T3 t)], .tuple [.str "both", t, .str (T3 t)]]) ++ [a1, a2]))) (e1 := .val (.list ((L ++ [t, d1, d2, .tuple [.str "not", t]]) ++ [.str (T3 t), .tuple [.str "not", .str (T3 t)], .tuple [.str "both", t, .str (T3 t)]]))) (a := .list ((L ++ [t, d1, d2, .tuple [.str "not", t]]) ++ [.str (T3 t), .tuple [.str "not", .str (T3 t)], .tuple [.str "both", t, .str (T3 t)]])) rfl (y5 _) rfl rfl (addL (by simp only [List.length_append, List.length_cons, List.length_nil]; omega))
  refine ⟨.val t, .val d1, [t, d1, d2, .tuple [.str "not", t], .str (T3 t), .tuple [.str "not", .str (T3 t)], .tuple [.str "both", t, .str (T3 t)], a1, a2], o5, ?_, rfl, ?_, p5.mono (by omega)⟩
  · refine sSeq_ok (sSet_ok y1 rfl) (sSeq_ok (sSet_ok x2 rfl) (sSeq_ok (sSet_ok w3 rfl) (sSeq_ok (sSet_ok w4 rfl) (sSet_ok w5 ?_))))
    show RS.nx _ _ = RS.nx _ _
    simp only [List.append_assoc, List.cons_append, List.nil_append]
    rfl
  · have tz : Sz 0 5 t := vt_sz0 (by omega) vt
    have az : Sz 0 5 (.str (T3 t)) := sz_atom (text_atom vt)
    intro e he
    simp only [List.mem_cons, List.not_mem_nil, or_false] at he
    rcases he with rfl | rfl | rfl | rfl | rfl | rfl | rfl | rfl | rfl
    · exact gd_26 (by omega) (by omega) tz
    · exact gd_26 (by omega) (by omega) z2
    · exact gd_26 (by omega) (by omega) z3
    · exact gd_26 (by omega) (by omega) (two_sz (by decide) tz)
    · exact gd_26 (by omega) (by omega) az
    · exact gd_26 (by omega) (by omega) (two_sz (by decide) az)
    · refine gd_26 (m := 0) (j := 6) (by omega) (by omega) (sz_tup (by show 3 ≤ wd (5 + 1) + 0; decide) fun y hy => ?_)
      simp only [List.mem_cons, List.not_mem_nil, or_false] at hy
      rcases hy with rfl | rfl | rfl
      · exact sz_atom (word_atom (by decide))
      · exact tz
      · exact az
    · exact gd_17 (by omega) (by omega) z4
    · exact gd_17 (by omega) (by omega) z5
theorem nd_sz {m n : Nat} {p : Str × Int} (h : NotP p) : Sz m (n + 1) (nd p) := by
  refine sz_tup (by have := (wd_le (n + 1)).1; show 2 ≤ wd (n + 1) + m; omega) fun e he => ?_
  simp only [List.mem_cons, List.not_mem_nil, or_false] at he
  rcases he with rfl | rfl
  · exact sz_atom (name_atom h.1)
  · exact sz_atom (by show p.2.natAbs ≤ _; rcases h.2 with e | e <;> rw [e] <;> omega)
theorem zz_atom {m : Nat} : Atom m (.str "zzzzzzzzz") := by
  have l : ("zzzzzzzzz" : Str).length ≤ 130 := by decide +kernel
  have c : ∀ c ∈ ("zzzzzzzzz" : Str).cps.toList, c < 128 := by decide +kernel
  exact ⟨by omega, c⟩
/-- one cell -/
theorem kBody_ok {sc : Sl} {cs : List Int} {k : Nat} {s2 s3 s4 s5 s6 s7 s8 s10 s11 : Sl} {st : Sto} (hk : k < cs.length) (h8 : cs.length ≤ 8) :
    ∃ (s2' s3' s4' s5' s6' s7' s8' s10' s11' : Sl) (o : MO), kBody [sc, .val (.list (cs.map .int)), s2, s3, s4, s5, s6, s7, s8, .val (.int k), s10, s11] st = .nx [sc, .val (.list (cs.map .int)), s2', s3', s4', s5', s6', s7', s8', .val (.int k), s10', s11'] (st ++ [.live o]) := by
  obtain ⟨o, ep, p0⟩ := pool_ok cs k hk (by omega)
  obtain ⟨ps, o1, en, n1, n3, np, nn, p1⟩ := notions_ok p0 (by omega)
  have hn : Nt ps := ⟨n1, n3, np, nn⟩
  obtain ⟨od, o2, eo, hod, p2⟩ := odd_ok p1 (by omega)
  have odz : Sz 0 2 od := odd_sz od hod
  have e1 : eCall d_l_pool [false, false] (aCons (eName 1) (aCons (eName 9) aNil)) [sc, .val (.list (cs.map .int)), s2, s3, s4, s5, s6, s7, s8, .val (.int k), s10, s11] st = .ok (.new o) st := call2_new rfl rfl ep
  have e2 : eCall d_l_notions [true] (aCons (eName 2) aNil) [sc, .val (.list (cs.map .int)), .ref st.length, s3, s4, s5, s6, s7, s8, .val (.int k), s10, s11] (SP st o) = .ok (.val (nt ps)) (SP st o1) := callP (vs := []) rfl rfl rfl en
  let S1 := lsl sc (.val (.list (cs.map .int))) st.length (nt ps) s4 s5 s6 s7 s8 (.val (.int k)) s10 s11
  have c0 : eCall d_l_odd [true] (aCons (eName 2) aNil) S1 (SP st o1) = .ok (.val od) (SP st o2) := callP (vs := []) rfl rfl rfl eo
  have go := lcGo_map (h := gT 2 (gCons' (gN 10) (gCons' (gN 11) gNil'))) (t := tTrue) (f := eName 10) (sl0 := wipeS S1 [10, 11]) (st := SP st o1) (fun _ => true) (fun d => .str (nmOf d)) (ps.map nd) (by
    intro d hd
    obtain ⟨q, _, rfl⟩ := List.mem_map.mp hd
    exact ⟨_, rfl, rfl, fun _ => ⟨.val (.str q.1), rfl, rfl⟩⟩)
  rw [List.filter_eq_self.mpr (fun _ _ => rfl), List.map_map] at go
  have lc : eLc [10, 11] (iSeq (eName 3)) (gT 2 (gCons' (gN 10) (gCons' (gN 11) gNil'))) tTrue (eName 10) S1 (SP st o1) = .ok (.new (.lst (ps.map fun q => .str q.1))) (SP st o1) :=
    eLc_ok (ds := ps.map nd) (st1 := SP st o1) (iSeq_tup (e1 := .val (nt ps)) rfl rfl) go (by rw [List.length_map]; unfold Lim; omega)
  obtain ⟨p, r, hpr⟩ : ∃ p r, ps = p :: r := by
    cases ps with
    | nil => simp at n1
    | cons p r => exact ⟨p, r, rfl⟩
  have ix : u2 ixD (eName 3) (eD (.int 0)) S1 (SP st o2) = .ok (.val (nd p)) (SP st o2) := by
    refine u2_ok (r := .val (nd p)) (e1 := .val (nt ps)) (st1 := SP st o2) rfl rfl rfl rfl ?_
    rw [hpr]
    exact ix_headT (nd p) (r.map nd)
  have one : eTup (aCons (eD (.str "not")) aNil) S1 (SP st o2) = .ok (.val (.tuple [.str "not"])) (SP st o2) := eTup_ok (es := [.val (.str "not")]) (ds := [.str "not"]) (st1 := SP st o2) rfl rfl (by show 1 ≤ Lim; decide)
  have five : eLst (aCons (eCall d_l_odd [true] (aCons (eName 2) aNil)) (aCons (u2 ixD (eName 3) (eD (.int 0))) (aCons (eD (.str "zzzzzzzzz")) (aCons (eD (.str "not")) (aCons (eTup (aCons (eD (.str "not")) aNil)) aNil))))) S1 (SP st o1) = .ok (.new (.lst [od, nd p, .str "zzzzzzzzz", .str "not", .tuple [.str "not"]])) (SP st o2) :=
    eLst_ok (es := [.val od, .val (nd p), .val (.str "zzzzzzzzz"), .val (.str "not"), .val (.tuple [.str "not"])]) (ds := [od, nd p, .str "zzzzzzzzz", .str "not", .tuple [.str "not"]]) (st1 := SP st o2) (aCons_ok (e1 := .val od) c0 (aCons_ok (e1 := .val (nd p)) ix (aCons_ok (e1 := .val (.str "zzzzzzzzz")) (st1 := SP st o2) rfl (aCons_ok (e1 := .val (.str "not")) (st1 := SP st o2) rfl (aCons_ok (e1 := .val (.tuple [.str "not"])) (es := []) one rfl))))) rfl (by show 5 ≤ Lim; decide)
  have e3 : u2 addD (eLc [10, 11] (iSeq (eName 3)) (gT 2 (gCons' (gN 10) (gCons' (gN 11) gNil'))) tTrue (eName 10)) (eLst (aCons (eCall d_l_odd [true] (aCons (eName 2) aNil)) (aCons (u2 ixD (eName 3) (eD (.int 0))) (aCons (eD (.str "zzzzzzzzz")) (aCons (eD (.str "not")) (aCons (eTup (aCons (eD (.str "not")) aNil)) aNil)))))) S1 (SP st o1) = .ok (.new (.lst ((ps.map fun q => .str q.1) ++ [od, nd p, .str "zzzzzzzzz", .str "not", .tuple [.str "not"]]))) (SP st o2) :=
    u2_ok (r := .new (.lst ((ps.map fun q => .str q.1) ++ [od, nd p, .str "zzzzzzzzz", .str "not", .tuple [.str "not"]]))) lc five rfl rfl (addL (by rw [List.length_map]; show ps.length + 5 ≤ 1000; omega))
  have pm : p ∈ ps := by rw [hpr]; exact List.mem_cons_self
  have g0 : ∀ e ∈ (ps.map fun q => PyData.str q.1) ++ [od, nd p, .str "zzzzzzzzz", .str "not", .tuple [.str "not"]], Gd e := by
    intro e he
    rcases List.mem_append.mp he with z | z
    · obtain ⟨q, hq, rfl⟩ := List.mem_map.mp z
      exact gd_26 (m := 0) (j := 0) (by omega) (by omega) (name_atom (np q hq).1)
    · simp only [List.mem_cons, List.not_mem_nil, or_false] at z
      rcases z with rfl | rfl | rfl | rfl | rfl
      · exact gd_26 (by omega) (by omega) odz
      · exact gd_26 (m := 0) (j := 1) (by omega) (by omega) (nd_sz (np p pm))
      · exact gd_26 (m := 0) (j := 0) (by omega) (by omega) zz_atom
      · exact gd_26 (m := 0) (j := 0) (by omega) (by omega) (word_atom (by decide))
      · exact gd_26 (m := 0) (j := 1) (by omega) (by omega) (sz_tup (by show 1 ≤ wd (0 + 1) + 0; decide) fun y hy => by rw [List.mem_singleton.mp hy]; exact sz_atom (word_atom (by decide)))
  obtain ⟨sl', st', f1, t5, t6, t7, L, o3, g1, g2, g3, g4, g5⟩ := sFor_inv (h := gN 7) (b := sBody)
    (fun i sl st0 => ∃ (t5 t6 t7 : Sl) (L : List PyData) (o3 : MO), sl = lsl sc (.val (.list (cs.map .int))) st.length (nt ps) (.val (.list L)) t5 t6 t7 s8 (.val (.int k)) s10 s11 ∧ st0 = SP st o3 ∧ (∀ e ∈ L, Gd e) ∧ L.length ≤ 10 + 9 * i ∧ PoolAt (120000 + 67 * i) o3)
    (rngL 0 (6 : Int).toNat) 0 (lsl sc (.val (.list (cs.map .int))) st.length (nt ps) (.val (.list ((ps.map fun q => .str q.1) ++ [od, nd p, .str "zzzzzzzzz", .str "not", .tuple [.str "not"]]))) s5 s6 s7 s8 (.val (.int k)) s10 s11) (SP st o2) ⟨s5, s6, s7, _, o2, rfl, rfl, g0, by rw [List.length_append, List.length_map]; show ps.length + 5 ≤ _; omega, p2.mono (by omega)⟩ (by
      rintro i dd sl st0 hdd ⟨t5, t6, t7, L, o3, rfl, rfl, z1, z2, z3⟩
      have i6 : i < 6 := by
        have := (List.getElem?_eq_some_iff.mp hdd).1
        rw [rngL_len] at this
        simpa using this
      rw [Nat.zero_add] at *
      obtain ⟨x5, x6, M, o4, b1, b2, b3, b4⟩ := sBody_ok hn (sc := sc) (cs := .val (.list (cs.map .int))) (s5 := t5) (s6 := t6) (s7 := .val dd) (s8 := s8) (s9 := .val (.int k)) (s10 := s10) (s11 := s11) (st := st) z1 (by omega) z3 (by omega)
      refine ⟨_, rfl, _, _, b1, x5, x6, .val dd, L ++ M, o4, rfl, rfl, fun e he => (List.mem_append.mp he).elim (z1 e) (b3 e), by rw [List.length_append, b2]; omega, b4.mono (by omega)⟩)
  obtain ⟨sl2, st2, f2, u8, q1, q2⟩ := sFor_inv (h := gN 8) (b := qBody)
    (fun i sl st0 => ∃ u8 : Sl, sl = lsl sc (.val (.list (cs.map .int))) st.length (nt ps) (.val (.list L)) t5 t6 t7 u8 (.val (.int k)) s10 s11 ∧ st0 = SP st o3)
    L 0 (lsl sc (.val (.list (cs.map .int))) st.length (nt ps) (.val (.list L)) t5 t6 t7 s8 (.val (.int k)) s10 s11) (SP st o3) ⟨s8, rfl, rfl⟩ (by
      rintro i d sl st0 hd ⟨u8, rfl, rfl⟩
      obtain ⟨⟨m, j, hm, hz⟩, S, hr⟩ := g3 d (List.mem_of_getElem? hd)
      have c : eCall d_l_right [false, false] (aCons (eName 3) (aCons (eName 8) aNil)) (lsl sc (.val (.list (cs.map .int))) st.length (nt ps) (.val (.list L)) t5 t6 t7 (.val d) (.val (.int k)) s10 s11) (SP st o3) = .ok (.val (.bool true)) (SP st o3) := call2_val (a := nt ps) (b := d) rfl rfl (right_ok hn hm hz hr)
      exact ⟨_, rfl, _, _, sIf_ok (tNotF_ok (tst_ok c)) rfl, .val d, rfl, rfl⟩)
  subst g1 g2 q1 q2
  exact ⟨_, _, _, _, _, _, _, _, _, o3, sSeq_ok (sSet_ok e1 rfl) (sSeq_ok (sSet_ok e2 rfl) (sSeq_ok (sSet_ok e3 rfl) (sSeq_ok (sForI_ok (iR1_ok (n := 6) rfl ⟨by omega, by omega⟩) f1) (sForI_ok (iSeq_list (e1 := .val (.list L)) rfl rfl) f2))))⟩
/-- THE LAW -/
theorem d_law_true (ns : List Int) (h : ns.length ≤ 63) (hb : ∀ z ∈ ns, Builtin.Int.intBits z ≤ 1048576) : d_law [.val (.list (ns.map .int))] = .rt (.bool true) [] := by
  obtain ⟨cs, ec, c1, c8⟩ := folded_ok ns h
  obtain ⟨sl', st', f1, t2, t3, t4, t5, t6, t7, t8, t9, t10, t11, g1, g2⟩ := sFor_inv (h := gN 9) (b := kBody)
    (fun i sl st => ∃ (t2 t3 t4 t5 t6 t7 t8 t9 t10 t11 : Sl), sl = [.val (.list (ns.map .int)), .val (.list (cs.map .int)), t2, t3, t4, t5, t6, t7, t8, t9, t10, t11] ∧ ∀ x ∈ st, ∃ y, x = Cell.live y)
    (rngL 0 (cs.length : Int).toNat) 0 [.val (.list (ns.map .int)), .val (.list (cs.map .int)), .non, .non, .non, .non, .non, .non, .non, .non, .non, .non] [] ⟨_, _, _, _, _, _, _, _, _, _, rfl, fun _ h => nomatch h⟩ (by
      rintro i dd sl st hd ⟨t2, t3, t4, t5, t6, t7, t8, t9, t10, t11, rfl, hl⟩
      have il : i < cs.length := by
        have := (List.getElem?_eq_some_iff.mp hd).1
        rw [rngL_len] at this
        simpa using this
      have hdd : dd = .int i := by
        obtain ⟨hi, e⟩ := List.getElem?_eq_some_iff.mp hd
        rw [← e]
        unfold rngL
        simp
      subst hdd
      obtain ⟨a2, a3, a4, a5, a6, a7, a8, a10, a11, o, e⟩ := kBody_ok (sc := .val (.list (ns.map .int))) (cs := cs) (k := i) (s2 := t2) (s3 := t3) (s4 := t4) (s5 := t5) (s6 := t6) (s7 := t7) (s8 := t8) (s10 := t10) (s11 := t11) (st := st) il c8
      refine ⟨_, rfl, _, _, e, _, _, _, _, _, _, _, _, _, _, rfl, fun x hx => ?_⟩
      rcases List.mem_append.mp hx with z | z
      · exact hl x z
      · exact ⟨o, List.mem_singleton.mp z⟩)
  have e0 : eCall d_l_folded [false, false] (aCons (eName 0) (aCons (eD (.int 8)) aNil)) [.val (.list (ns.map .int)), .non, .non, .non, .non, .non, .non, .non, .non, .non, .non, .non] [] = .ok (.val (.list (cs.map .int))) [] :=
    eCall_ok (es := [.val (.list (ns.map .int)), .val (.int 8)]) (rs := [.inl (.list (ns.map .int)), .inl (.int 8)]) (as := [.val (.list (ns.map .int)), .val (.int 8)]) (ns := []) (os := []) (st1 := []) (st2 := []) rfl rfl rfl (by decide) ec rfl
  have key : g_law [.val (.list (ns.map .int)), .non, .non, .non, .non, .non, .non, .non, .non, .non, .non, .non] [] = .rt (.bool true) st' := by
    unfold g_law
    refine sSeq_ok (sSet_ok e0 rfl) (sSeq_ok (sForI_ok (ds := rngL 0 (cs.length : Int).toNat) (iR1_ok (n := cs.length) ?_ ⟨by omega, by omega⟩) f1) rfl)
    refine un_ok (r := .val (.int cs.length)) (es := [.val (.list (cs.map .int))]) (ds := [.list (cs.map .int)]) rfl rfl ?_
    show some (OR.val (.int (cs.map PyData.int).length)) = _
    rw [List.length_map]
  show endD (g_law [.val (.list (ns.map .int)), .non, .non, .non, .non, .non, .non, .non, .non, .non, .non, .non] []) = _
  rw [key]
  show DR.rt (.bool true) (outs st') = _
  rw [outs_live g2]
end G03
namespace G03
open PySem PySem.Spec PyProof.Rows L2 Px
theorem all_mk {P : Program} {w : PySem.World} {K : PySem.W.Frag} {h : Heap} {mg : Str → Option Value} {fa : Addr} (X : K.In h) (G : h.Ns mainGlobals mg) (hfa : mg "law" = some (.ref fa))
    {f_is_number_in : Addr} {od_is_number_in an_is_number_in : Option Addr} {sl_is_number_in : Array (Option Value)} {oc_is_number_in kV_is_number_in dc_is_number_in pm_is_number_in cd_is_number_in ct_is_number_in : Value}
    {f_is_name : Addr} {od_is_name an_is_name : Option Addr} {sl_is_name : Array (Option Value)} {oc_is_name kV_is_name dc_is_name pm_is_name cd_is_name ct_is_name : Value}
    {f_places_of_one : Addr} {od_places_of_one an_places_of_one : Option Addr} {sl_places_of_one : Array (Option Value)} {oc_places_of_one kV_places_of_one dc_places_of_one pm_places_of_one cd_places_of_one ct_places_of_one : Value}
    {f_places_of_two : Addr} {od_places_of_two an_places_of_two : Option Addr} {sl_places_of_two : Array (Option Value)} {oc_places_of_two kV_places_of_two dc_places_of_two pm_places_of_two cd_places_of_two ct_places_of_two : Value}
    {f_terms_by_text : Addr} {od_terms_by_text an_terms_by_text : Option Addr} {sl_terms_by_text : Array (Option Value)} {oc_terms_by_text kV_terms_by_text dc_terms_by_text pm_terms_by_text cd_terms_by_text ct_terms_by_text : Value}
    {f_l_pool : Addr} {od_l_pool an_l_pool : Option Addr} {sl_l_pool : Array (Option Value)} {oc_l_pool kV_l_pool dc_l_pool pm_l_pool cd_l_pool ct_l_pool : Value}
    {f_l_take : Addr} {od_l_take an_l_take : Option Addr} {sl_l_take : Array (Option Value)} {oc_l_take kV_l_take dc_l_take pm_l_take cd_l_take ct_l_take : Value}
    {f_l_folded : Addr} {od_l_folded an_l_folded : Option Addr} {sl_l_folded : Array (Option Value)} {oc_l_folded kV_l_folded dc_l_folded pm_l_folded cd_l_folded ct_l_folded : Value}
    {f_is_notions : Addr} {od_is_notions an_is_notions : Option Addr} {sl_is_notions : Array (Option Value)} {oc_is_notions kV_is_notions dc_is_notions pm_is_notions cd_is_notions ct_is_notions : Value}
    {f_l_names : Addr} {od_l_names an_l_names : Option Addr} {sl_l_names : Array (Option Value)} {oc_l_names kV_l_names dc_l_names pm_l_names cd_l_names ct_l_names : Value}
    {f_l_term : Addr} {od_l_term an_l_term : Option Addr} {sl_l_term : Array (Option Value)} {oc_l_term kV_l_term dc_l_term pm_l_term cd_l_term ct_l_term : Value}
    {f_l_odd : Addr} {od_l_odd an_l_odd : Option Addr} {sl_l_odd : Array (Option Value)} {oc_l_odd kV_l_odd dc_l_odd pm_l_odd cd_l_odd ct_l_odd : Value}
    {f_require_notions : Addr} {od_require_notions an_require_notions : Option Addr} {sl_require_notions : Array (Option Value)} {oc_require_notions kV_require_notions dc_require_notions pm_require_notions cd_require_notions ct_require_notions : Value}
    {f_l_notions : Addr} {od_l_notions an_l_notions : Option Addr} {sl_l_notions : Array (Option Value)} {oc_l_notions kV_l_notions dc_l_notions pm_l_notions cd_l_notions ct_l_notions : Value}
    {f_l_about : Addr} {od_l_about an_l_about : Option Addr} {sl_l_about : Array (Option Value)} {oc_l_about kV_l_about dc_l_about pm_l_about cd_l_about ct_l_about : Value}
    {f_l_parts : Addr} {od_l_parts an_l_parts : Option Addr} {sl_l_parts : Array (Option Value)} {oc_l_parts kV_l_parts dc_l_parts pm_l_parts cd_l_parts ct_l_parts : Value}
    {f_l_text : Addr} {od_l_text an_l_text : Option Addr} {sl_l_text : Array (Option Value)} {oc_l_text kV_l_text dc_l_text pm_l_text cd_l_text ct_l_text : Value}
    {f_l_places : Addr} {od_l_places an_l_places : Option Addr} {sl_l_places : Array (Option Value)} {oc_l_places kV_l_places dc_l_places pm_l_places cd_l_places ct_l_places : Value}
    {f_enter_term dd_enter_term : Addr} {od_enter_term an_enter_term : Option Addr} {sl_enter_term dl_enter_term : Array (Option Value)} {oc_enter_term kV_enter_term dc_enter_term pm_enter_term cd_enter_term ct_enter_term : Value} {dt_enter_term : Tok} {dn_enter_term : Nat}
    {f_l_due_parts : Addr} {od_l_due_parts an_l_due_parts : Option Addr} {sl_l_due_parts : Array (Option Value)} {oc_l_due_parts kV_l_due_parts dc_l_due_parts pm_l_due_parts cd_l_due_parts ct_l_due_parts : Value}
    {f_parts_within : Addr} {od_parts_within an_parts_within : Option Addr} {sl_parts_within : Array (Option Value)} {oc_parts_within kV_parts_within dc_parts_within pm_parts_within cd_parts_within ct_parts_within : Value}
    {f_l_spoilt : Addr} {od_l_spoilt an_l_spoilt : Option Addr} {sl_l_spoilt : Array (Option Value)} {oc_l_spoilt kV_l_spoilt dc_l_spoilt pm_l_spoilt cd_l_spoilt ct_l_spoilt : Value}
    {f_is_term : Addr} {od_is_term an_is_term : Option Addr} {sl_is_term : Array (Option Value)} {oc_is_term kV_is_term dc_is_term pm_is_term cd_is_term ct_is_term : Value}
    {f_read : Addr} {od_read an_read : Option Addr} {sl_read : Array (Option Value)} {oc_read kV_read dc_read pm_read cd_read ct_read : Value}
    {f_l_same : Addr} {od_l_same an_l_same : Option Addr} {sl_l_same : Array (Option Value)} {oc_l_same kV_l_same dc_l_same pm_l_same cd_l_same ct_l_same : Value}
    {f_places_of : Addr} {od_places_of an_places_of : Option Addr} {sl_places_of : Array (Option Value)} {oc_places_of kV_places_of dc_places_of pm_places_of cd_places_of ct_places_of : Value}
    {f_parts_of : Addr} {od_parts_of an_parts_of : Option Addr} {sl_parts_of : Array (Option Value)} {oc_parts_of kV_parts_of dc_parts_of pm_parts_of cd_parts_of ct_parts_of : Value}
    {f_term_text : Addr} {od_term_text an_term_text : Option Addr} {sl_term_text : Array (Option Value)} {oc_term_text kV_term_text dc_term_text pm_term_text cd_term_text ct_term_text : Value}
    {f_l_told : Addr} {od_l_told an_l_told : Option Addr} {sl_l_told : Array (Option Value)} {oc_l_told kV_l_told dc_l_told pm_l_told cd_l_told ct_l_told : Value}
    {f_l_refused : Addr} {od_l_refused an_l_refused : Option Addr} {sl_l_refused : Array (Option Value)} {oc_l_refused kV_l_refused dc_l_refused pm_l_refused cd_l_refused ct_l_refused : Value}
    {f_l_right : Addr} {od_l_right an_l_right : Option Addr} {sl_l_right : Array (Option Value)} {oc_l_right kV_l_right dc_l_right pm_l_right cd_l_right ct_l_right : Value}
    {f_law : Addr} {od_law an_law : Option Addr} {sl_law : Array (Option Value)} {oc_law kV_law dc_law pm_law cd_law ct_law : Value}
    {MOST_LETTERS_t0 : Tok}
    {MOST_NOTIONS_t0 : Tok}
    {MOST_PLACES_t0 : Tok}
    {MOST_TUPLES_t0 : Tok}
    {WORDS_t0 WORDS_t1 WORDS_t2 WORDS_t3 WORDS_t4 WORDS_t5 : Tok} {q_WORDS : Addr} {n_WORDS : Nat} {sl_WORDS : Array (Option Value)}
    {c_LoreError : Addr}
    {c_NoAtom : Addr}
    {c_NoField : Addr}
    {c_NoNotions : Addr}
    {c_NoTerm : Addr}
    (A_is_number_in : PySem.W.nsIn K mainGlobals "is_number_in" = some (some (.ref f_is_number_in)))
    (L_is_number_in : K.lookup f_is_number_in = some ⟨oc_is_number_in, od_is_number_in, .func (PySem.W.fnOf "is_number_in" "is_number_in" (defArgs s_is_number_in) (defBody s_is_number_in) (defScope s_is_number_in) .none kV_is_number_in dc_is_number_in pm_is_number_in an_is_number_in cd_is_number_in ct_is_number_in), sl_is_number_in⟩)
    (C_is_number_in : PySem.W.codeIn K cd_is_number_in "is_number_in" = true)
    (K_is_number_in : PySem.W.keepIn K (.ref f_is_number_in) = true)
    (A_is_name : PySem.W.nsIn K mainGlobals "_is_name" = some (some (.ref f_is_name)))
    (L_is_name : K.lookup f_is_name = some ⟨oc_is_name, od_is_name, .func (PySem.W.fnOf "_is_name" "_is_name" (defArgs s_is_name) (defBody s_is_name) (defScope s_is_name) .none kV_is_name dc_is_name pm_is_name an_is_name cd_is_name ct_is_name), sl_is_name⟩)
    (C_is_name : PySem.W.codeIn K cd_is_name "_is_name" = true)
    (K_is_name : PySem.W.keepIn K (.ref f_is_name) = true)
    (A_places_of_one : PySem.W.nsIn K mainGlobals "_places_of_one" = some (some (.ref f_places_of_one)))
    (L_places_of_one : K.lookup f_places_of_one = some ⟨oc_places_of_one, od_places_of_one, .func (PySem.W.fnOf "_places_of_one" "_places_of_one" (defArgs s_places_of_one) (defBody s_places_of_one) (defScope s_places_of_one) .none kV_places_of_one dc_places_of_one pm_places_of_one an_places_of_one cd_places_of_one ct_places_of_one), sl_places_of_one⟩)
    (C_places_of_one : PySem.W.codeIn K cd_places_of_one "_places_of_one" = true)
    (K_places_of_one : PySem.W.keepIn K (.ref f_places_of_one) = true)
    (A_places_of_two : PySem.W.nsIn K mainGlobals "_places_of_two" = some (some (.ref f_places_of_two)))
    (L_places_of_two : K.lookup f_places_of_two = some ⟨oc_places_of_two, od_places_of_two, .func (PySem.W.fnOf "_places_of_two" "_places_of_two" (defArgs s_places_of_two) (defBody s_places_of_two) (defScope s_places_of_two) .none kV_places_of_two dc_places_of_two pm_places_of_two an_places_of_two cd_places_of_two ct_places_of_two), sl_places_of_two⟩)
    (C_places_of_two : PySem.W.codeIn K cd_places_of_two "_places_of_two" = true)
    (K_places_of_two : PySem.W.keepIn K (.ref f_places_of_two) = true)
    (A_terms_by_text : PySem.W.nsIn K mainGlobals "terms_by_text" = some (some (.ref f_terms_by_text)))
    (L_terms_by_text : K.lookup f_terms_by_text = some ⟨oc_terms_by_text, od_terms_by_text, .func (PySem.W.fnOf "terms_by_text" "terms_by_text" (defArgs s_terms_by_text) (defBody s_terms_by_text) (defScope s_terms_by_text) .none kV_terms_by_text dc_terms_by_text pm_terms_by_text an_terms_by_text cd_terms_by_text ct_terms_by_text), sl_terms_by_text⟩)
    (C_terms_by_text : PySem.W.codeIn K cd_terms_by_text "terms_by_text" = true)
    (K_terms_by_text : PySem.W.keepIn K (.ref f_terms_by_text) = true)
    (A_l_pool : PySem.W.nsIn K mainGlobals "_law_pool" = some (some (.ref f_l_pool)))
    (L_l_pool : K.lookup f_l_pool = some ⟨oc_l_pool, od_l_pool, .func (PySem.W.fnOf "_law_pool" "_law_pool" (defArgs s_l_pool) (defBody s_l_pool) (defScope s_l_pool) .none kV_l_pool dc_l_pool pm_l_pool an_l_pool cd_l_pool ct_l_pool), sl_l_pool⟩)
    (C_l_pool : PySem.W.codeIn K cd_l_pool "_law_pool" = true)
    (K_l_pool : PySem.W.keepIn K (.ref f_l_pool) = true)
    (A_l_take : PySem.W.nsIn K mainGlobals "_law_take" = some (some (.ref f_l_take)))
    (L_l_take : K.lookup f_l_take = some ⟨oc_l_take, od_l_take, .func (PySem.W.fnOf "_law_take" "_law_take" (defArgs s_l_take) (defBody s_l_take) (defScope s_l_take) .none kV_l_take dc_l_take pm_l_take an_l_take cd_l_take ct_l_take), sl_l_take⟩)
    (C_l_take : PySem.W.codeIn K cd_l_take "_law_take" = true)
    (K_l_take : PySem.W.keepIn K (.ref f_l_take) = true)
    (A_l_folded : PySem.W.nsIn K mainGlobals "_law_folded" = some (some (.ref f_l_folded)))
    (L_l_folded : K.lookup f_l_folded = some ⟨oc_l_folded, od_l_folded, .func (PySem.W.fnOf "_law_folded" "_law_folded" (defArgs s_l_folded) (defBody s_l_folded) (defScope s_l_folded) .none kV_l_folded dc_l_folded pm_l_folded an_l_folded cd_l_folded ct_l_folded), sl_l_folded⟩)
    (C_l_folded : PySem.W.codeIn K cd_l_folded "_law_folded" = true)
    (K_l_folded : PySem.W.keepIn K (.ref f_l_folded) = true)
    (A_is_notions : PySem.W.nsIn K mainGlobals "is_notions" = some (some (.ref f_is_notions)))
    (L_is_notions : K.lookup f_is_notions = some ⟨oc_is_notions, od_is_notions, .func (PySem.W.fnOf "is_notions" "is_notions" (defArgs s_is_notions) (defBody s_is_notions) (defScope s_is_notions) .none kV_is_notions dc_is_notions pm_is_notions an_is_notions cd_is_notions ct_is_notions), sl_is_notions⟩)
    (C_is_notions : PySem.W.codeIn K cd_is_notions "is_notions" = true)
    (K_is_notions : PySem.W.keepIn K (.ref f_is_notions) = true)
    (A_l_names : PySem.W.nsIn K mainGlobals "_law_names" = some (some (.ref f_l_names)))
    (L_l_names : K.lookup f_l_names = some ⟨oc_l_names, od_l_names, .func (PySem.W.fnOf "_law_names" "_law_names" (defArgs s_l_names) (defBody s_l_names) (defScope s_l_names) .none kV_l_names dc_l_names pm_l_names an_l_names cd_l_names ct_l_names), sl_l_names⟩)
    (C_l_names : PySem.W.codeIn K cd_l_names "_law_names" = true)
    (K_l_names : PySem.W.keepIn K (.ref f_l_names) = true)
    (A_l_term : PySem.W.nsIn K mainGlobals "_law_term" = some (some (.ref f_l_term)))
    (L_l_term : K.lookup f_l_term = some ⟨oc_l_term, od_l_term, .func (PySem.W.fnOf "_law_term" "_law_term" (defArgs s_l_term) (defBody s_l_term) (defScope s_l_term) .none kV_l_term dc_l_term pm_l_term an_l_term cd_l_term ct_l_term), sl_l_term⟩)
    (C_l_term : PySem.W.codeIn K cd_l_term "_law_term" = true)
    (K_l_term : PySem.W.keepIn K (.ref f_l_term) = true)
    (A_l_odd : PySem.W.nsIn K mainGlobals "_law_odd" = some (some (.ref f_l_odd)))
    (L_l_odd : K.lookup f_l_odd = some ⟨oc_l_odd, od_l_odd, .func (PySem.W.fnOf "_law_odd" "_law_odd" (defArgs s_l_odd) (defBody s_l_odd) (defScope s_l_odd) .none kV_l_odd dc_l_odd pm_l_odd an_l_odd cd_l_odd ct_l_odd), sl_l_odd⟩)
    (C_l_odd : PySem.W.codeIn K cd_l_odd "_law_odd" = true)
    (K_l_odd : PySem.W.keepIn K (.ref f_l_odd) = true)
    (A_require_notions : PySem.W.nsIn K mainGlobals "_require_notions" = some (some (.ref f_require_notions)))
    (L_require_notions : K.lookup f_require_notions = some ⟨oc_require_notions, od_require_notions, .func (PySem.W.fnOf "_require_notions" "_require_notions" (defArgs s_require_notions) (defBody s_require_notions) (defScope s_require_notions) .none kV_require_notions dc_require_notions pm_require_notions an_require_notions cd_require_notions ct_require_notions), sl_require_notions⟩)
    (C_require_notions : PySem.W.codeIn K cd_require_notions "_require_notions" = true)
    (K_require_notions : PySem.W.keepIn K (.ref f_require_notions) = true)
    (A_l_notions : PySem.W.nsIn K mainGlobals "_law_notions" = some (some (.ref f_l_notions)))
    (L_l_notions : K.lookup f_l_notions = some ⟨oc_l_notions, od_l_notions, .func (PySem.W.fnOf "_law_notions" "_law_notions" (defArgs s_l_notions) (defBody s_l_notions) (defScope s_l_notions) .none kV_l_notions dc_l_notions pm_l_notions an_l_notions cd_l_notions ct_l_notions), sl_l_notions⟩)
    (C_l_notions : PySem.W.codeIn K cd_l_notions "_law_notions" = true)
    (K_l_notions : PySem.W.keepIn K (.ref f_l_notions) = true)
    (A_l_about : PySem.W.nsIn K mainGlobals "_law_about" = some (some (.ref f_l_about)))
    (L_l_about : K.lookup f_l_about = some ⟨oc_l_about, od_l_about, .func (PySem.W.fnOf "_law_about" "_law_about" (defArgs s_l_about) (defBody s_l_about) (defScope s_l_about) .none kV_l_about dc_l_about pm_l_about an_l_about cd_l_about ct_l_about), sl_l_about⟩)
    (C_l_about : PySem.W.codeIn K cd_l_about "_law_about" = true)
    (K_l_about : PySem.W.keepIn K (.ref f_l_about) = true)
    (A_l_parts : PySem.W.nsIn K mainGlobals "_law_parts" = some (some (.ref f_l_parts)))
    (L_l_parts : K.lookup f_l_parts = some ⟨oc_l_parts, od_l_parts, .func (PySem.W.fnOf "_law_parts" "_law_parts" (defArgs s_l_parts) (defBody s_l_parts) (defScope s_l_parts) .none kV_l_parts dc_l_parts pm_l_parts an_l_parts cd_l_parts ct_l_parts), sl_l_parts⟩)
    (C_l_parts : PySem.W.codeIn K cd_l_parts "_law_parts" = true)
    (K_l_parts : PySem.W.keepIn K (.ref f_l_parts) = true)
    (A_l_text : PySem.W.nsIn K mainGlobals "_law_text" = some (some (.ref f_l_text)))
    (L_l_text : K.lookup f_l_text = some ⟨oc_l_text, od_l_text, .func (PySem.W.fnOf "_law_text" "_law_text" (defArgs s_l_text) (defBody s_l_text) (defScope s_l_text) .none kV_l_text dc_l_text pm_l_text an_l_text cd_l_text ct_l_text), sl_l_text⟩)
    (C_l_text : PySem.W.codeIn K cd_l_text "_law_text" = true)
    (K_l_text : PySem.W.keepIn K (.ref f_l_text) = true)
    (A_l_places : PySem.W.nsIn K mainGlobals "_law_places" = some (some (.ref f_l_places)))
    (L_l_places : K.lookup f_l_places = some ⟨oc_l_places, od_l_places, .func (PySem.W.fnOf "_law_places" "_law_places" (defArgs s_l_places) (defBody s_l_places) (defScope s_l_places) .none kV_l_places dc_l_places pm_l_places an_l_places cd_l_places ct_l_places), sl_l_places⟩)
    (C_l_places : PySem.W.codeIn K cd_l_places "_law_places" = true)
    (K_l_places : PySem.W.keepIn K (.ref f_l_places) = true)
    (A_enter_term : PySem.W.nsIn K mainGlobals "enter_term" = some (some (.ref f_enter_term)))
    (L_enter_term : K.lookup f_enter_term = some ⟨oc_enter_term, od_enter_term, .func (PySem.W.fnOf "enter_term" "enter_term" (defArgs s_enter_term) (defBody s_enter_term) (defScope s_enter_term) (.ref dd_enter_term) kV_enter_term dc_enter_term pm_enter_term an_enter_term cd_enter_term ct_enter_term), sl_enter_term⟩)
    (D_enter_term : K.lookup dd_enter_term = some ⟨.type "tuple", none, .seq #[.int 3 dt_enter_term] dn_enter_term, dl_enter_term⟩)
    (C_enter_term : PySem.W.codeIn K cd_enter_term "enter_term" = true)
    (K_enter_term : PySem.W.keepIn K (.ref f_enter_term) = true)
    (A_l_due_parts : PySem.W.nsIn K mainGlobals "_law_due_parts" = some (some (.ref f_l_due_parts)))
    (L_l_due_parts : K.lookup f_l_due_parts = some ⟨oc_l_due_parts, od_l_due_parts, .func (PySem.W.fnOf "_law_due_parts" "_law_due_parts" (defArgs s_l_due_parts) (defBody s_l_due_parts) (defScope s_l_due_parts) .none kV_l_due_parts dc_l_due_parts pm_l_due_parts an_l_due_parts cd_l_due_parts ct_l_due_parts), sl_l_due_parts⟩)
    (C_l_due_parts : PySem.W.codeIn K cd_l_due_parts "_law_due_parts" = true)
    (K_l_due_parts : PySem.W.keepIn K (.ref f_l_due_parts) = true)
    (A_parts_within : PySem.W.nsIn K mainGlobals "parts_within" = some (some (.ref f_parts_within)))
    (L_parts_within : K.lookup f_parts_within = some ⟨oc_parts_within, od_parts_within, .func (PySem.W.fnOf "parts_within" "parts_within" (defArgs s_parts_within) (defBody s_parts_within) (defScope s_parts_within) .none kV_parts_within dc_parts_within pm_parts_within an_parts_within cd_parts_within ct_parts_within), sl_parts_within⟩)
    (C_parts_within : PySem.W.codeIn K cd_parts_within "parts_within" = true)
    (K_parts_within : PySem.W.keepIn K (.ref f_parts_within) = true)
    (A_l_spoilt : PySem.W.nsIn K mainGlobals "_law_spoilt" = some (some (.ref f_l_spoilt)))
    (L_l_spoilt : K.lookup f_l_spoilt = some ⟨oc_l_spoilt, od_l_spoilt, .func (PySem.W.fnOf "_law_spoilt" "_law_spoilt" (defArgs s_l_spoilt) (defBody s_l_spoilt) (defScope s_l_spoilt) .none kV_l_spoilt dc_l_spoilt pm_l_spoilt an_l_spoilt cd_l_spoilt ct_l_spoilt), sl_l_spoilt⟩)
    (C_l_spoilt : PySem.W.codeIn K cd_l_spoilt "_law_spoilt" = true)
    (K_l_spoilt : PySem.W.keepIn K (.ref f_l_spoilt) = true)
    (A_is_term : PySem.W.nsIn K mainGlobals "is_term" = some (some (.ref f_is_term)))
    (L_is_term : K.lookup f_is_term = some ⟨oc_is_term, od_is_term, .func (PySem.W.fnOf "is_term" "is_term" (defArgs s_is_term) (defBody s_is_term) (defScope s_is_term) .none kV_is_term dc_is_term pm_is_term an_is_term cd_is_term ct_is_term), sl_is_term⟩)
    (C_is_term : PySem.W.codeIn K cd_is_term "is_term" = true)
    (K_is_term : PySem.W.keepIn K (.ref f_is_term) = true)
    (A_read : PySem.W.nsIn K mainGlobals "_read" = some (some (.ref f_read)))
    (L_read : K.lookup f_read = some ⟨oc_read, od_read, .func (PySem.W.fnOf "_read" "_read" (defArgs s_read) (defBody s_read) (defScope s_read) .none kV_read dc_read pm_read an_read cd_read ct_read), sl_read⟩)
    (C_read : PySem.W.codeIn K cd_read "_read" = true)
    (K_read : PySem.W.keepIn K (.ref f_read) = true)
    (A_l_same : PySem.W.nsIn K mainGlobals "_law_same" = some (some (.ref f_l_same)))
    (L_l_same : K.lookup f_l_same = some ⟨oc_l_same, od_l_same, .func (PySem.W.fnOf "_law_same" "_law_same" (defArgs s_l_same) (defBody s_l_same) (defScope s_l_same) .none kV_l_same dc_l_same pm_l_same an_l_same cd_l_same ct_l_same), sl_l_same⟩)
    (C_l_same : PySem.W.codeIn K cd_l_same "_law_same" = true)
    (K_l_same : PySem.W.keepIn K (.ref f_l_same) = true)
    (A_places_of : PySem.W.nsIn K mainGlobals "places_of" = some (some (.ref f_places_of)))
    (L_places_of : K.lookup f_places_of = some ⟨oc_places_of, od_places_of, .func (PySem.W.fnOf "places_of" "places_of" (defArgs s_places_of) (defBody s_places_of) (defScope s_places_of) .none kV_places_of dc_places_of pm_places_of an_places_of cd_places_of ct_places_of), sl_places_of⟩)
    (C_places_of : PySem.W.codeIn K cd_places_of "places_of" = true)
    (K_places_of : PySem.W.keepIn K (.ref f_places_of) = true)
    (A_parts_of : PySem.W.nsIn K mainGlobals "parts_of" = some (some (.ref f_parts_of)))
    (L_parts_of : K.lookup f_parts_of = some ⟨oc_parts_of, od_parts_of, .func (PySem.W.fnOf "parts_of" "parts_of" (defArgs s_parts_of) (defBody s_parts_of) (defScope s_parts_of) .none kV_parts_of dc_parts_of pm_parts_of an_parts_of cd_parts_of ct_parts_of), sl_parts_of⟩)
    (C_parts_of : PySem.W.codeIn K cd_parts_of "parts_of" = true)
    (K_parts_of : PySem.W.keepIn K (.ref f_parts_of) = true)
    (A_term_text : PySem.W.nsIn K mainGlobals "term_text" = some (some (.ref f_term_text)))
    (L_term_text : K.lookup f_term_text = some ⟨oc_term_text, od_term_text, .func (PySem.W.fnOf "term_text" "term_text" (defArgs s_term_text) (defBody s_term_text) (defScope s_term_text) .none kV_term_text dc_term_text pm_term_text an_term_text cd_term_text ct_term_text), sl_term_text⟩)
    (C_term_text : PySem.W.codeIn K cd_term_text "term_text" = true)
    (K_term_text : PySem.W.keepIn K (.ref f_term_text) = true)
    (A_l_told : PySem.W.nsIn K mainGlobals "_law_told" = some (some (.ref f_l_told)))
    (L_l_told : K.lookup f_l_told = some ⟨oc_l_told, od_l_told, .func (PySem.W.fnOf "_law_told" "_law_told" (defArgs s_l_told) (defBody s_l_told) (defScope s_l_told) .none kV_l_told dc_l_told pm_l_told an_l_told cd_l_told ct_l_told), sl_l_told⟩)
    (C_l_told : PySem.W.codeIn K cd_l_told "_law_told" = true)
    (K_l_told : PySem.W.keepIn K (.ref f_l_told) = true)
    (A_l_refused : PySem.W.nsIn K mainGlobals "_law_refused" = some (some (.ref f_l_refused)))
    (L_l_refused : K.lookup f_l_refused = some ⟨oc_l_refused, od_l_refused, .func (PySem.W.fnOf "_law_refused" "_law_refused" (defArgs s_l_refused) (defBody s_l_refused) (defScope s_l_refused) .none kV_l_refused dc_l_refused pm_l_refused an_l_refused cd_l_refused ct_l_refused), sl_l_refused⟩)
    (C_l_refused : PySem.W.codeIn K cd_l_refused "_law_refused" = true)
    (K_l_refused : PySem.W.keepIn K (.ref f_l_refused) = true)
    (A_l_right : PySem.W.nsIn K mainGlobals "_law_right" = some (some (.ref f_l_right)))
    (L_l_right : K.lookup f_l_right = some ⟨oc_l_right, od_l_right, .func (PySem.W.fnOf "_law_right" "_law_right" (defArgs s_l_right) (defBody s_l_right) (defScope s_l_right) .none kV_l_right dc_l_right pm_l_right an_l_right cd_l_right ct_l_right), sl_l_right⟩)
    (C_l_right : PySem.W.codeIn K cd_l_right "_law_right" = true)
    (K_l_right : PySem.W.keepIn K (.ref f_l_right) = true)
    (A_law : PySem.W.nsIn K mainGlobals "law" = some (some (.ref f_law)))
    (L_law : K.lookup f_law = some ⟨oc_law, od_law, .func (PySem.W.fnOf "law" "law" (defArgs s_law) (defBody s_law) (defScope s_law) .none kV_law dc_law pm_law an_law cd_law ct_law), sl_law⟩)
    (C_law : PySem.W.codeIn K cd_law "law" = true)
    (K_law : PySem.W.keepIn K (.ref f_law) = true)
    (N_all : PySem.W.nsIn K mainGlobals "all" = some none)
    (N_bool : PySem.W.nsIn K mainGlobals "bool" = some none)
    (N_dict : PySem.W.nsIn K mainGlobals "dict" = some none)
    (N_int : PySem.W.nsIn K mainGlobals "int" = some none)
    (N_isinstance : PySem.W.nsIn K mainGlobals "isinstance" = some none)
    (N_len : PySem.W.nsIn K mainGlobals "len" = some none)
    (N_list : PySem.W.nsIn K mainGlobals "list" = some none)
    (N_max : PySem.W.nsIn K mainGlobals "max" = some none)
    (N_min : PySem.W.nsIn K mainGlobals "min" = some none)
    (N_range : PySem.W.nsIn K mainGlobals "range" = some none)
    (N_repr : PySem.W.nsIn K mainGlobals "repr" = some none)
    (N_sorted : PySem.W.nsIn K mainGlobals "sorted" = some none)
    (N_str : PySem.W.nsIn K mainGlobals "str" = some none)
    (N_sum : PySem.W.nsIn K mainGlobals "sum" = some none)
    (N_tuple : PySem.W.nsIn K mainGlobals "tuple" = some none)
    (N_type : PySem.W.nsIn K mainGlobals "type" = some none)
    (N_zip : PySem.W.nsIn K mainGlobals "zip" = some none)
    (A_MOST_LETTERS : PySem.W.nsIn K mainGlobals "MOST_LETTERS" = some (some (.int 8 MOST_LETTERS_t0)))
    (A_MOST_NOTIONS : PySem.W.nsIn K mainGlobals "MOST_NOTIONS" = some (some (.int 3 MOST_NOTIONS_t0)))
    (A_MOST_PLACES : PySem.W.nsIn K mainGlobals "MOST_PLACES" = some (some (.int 2 MOST_PLACES_t0)))
    (A_MOST_TUPLES : PySem.W.nsIn K mainGlobals "MOST_TUPLES" = some (some (.int 3 MOST_TUPLES_t0)))
    (A_WORDS : PySem.W.nsIn K mainGlobals "WORDS" = some (some (.ref q_WORDS)))
    (L_WORDS : K.lookup q_WORDS = some ⟨.type "tuple", none, .seq #[(.str "not" WORDS_t0), (.str "both" WORDS_t1), (.str "either" WORDS_t2), (.str "turned" WORDS_t3), (.str "chain" WORDS_t4), (.str "some" WORDS_t5)] n_WORDS, sl_WORDS⟩)
    (A_LoreError : PySem.W.nsIn K mainGlobals "LoreError" = some (some (.ref c_LoreError)))
    (A_NoAtom : PySem.W.nsIn K mainGlobals "NoAtom" = some (some (.ref c_NoAtom)))
    (A_NoField : PySem.W.nsIn K mainGlobals "NoField" = some (some (.ref c_NoField)))
    (A_NoNotions : PySem.W.nsIn K mainGlobals "NoNotions" = some (some (.ref c_NoNotions)))
    (X_NoNotions : PySem.W.excIn K c_NoNotions [.type "ValueError", .type "Exception", .type "BaseException", .type "object"] "ValueError.__new__" = true)
    (KC_NoNotions : PySem.W.keepIn K (.ref c_NoNotions) = true)
    (S_NoNotions : PySem.W.subIn K (.ref c_NoNotions) (.type "BaseException") = some true)
    (T_NoNotions : PySem.W.typeIn K (.ref c_NoNotions) = some (.type "type"))
    (E1_NoNotions : PySem.W.findIn K (.ref c_NoNotions) "__getattribute__" = some (some (.builtin "BaseException.__getattribute__")))
    (E2_NoNotions : PySem.W.findIn K (.ref c_NoNotions) "__getattr__" = some none)
    (E4_NoNotions : PySem.W.hasDictIn K c_NoNotions = true)
    (E5_NoNotions : PySem.W.findIn K (.ref c_NoNotions) "__class__" = some (some (.builtin "object.__class__")))
    (E8_NoNotions : PySem.W.mroIn K c_NoNotions (.type "object") = some true)
    (A_NoTerm : PySem.W.nsIn K mainGlobals "NoTerm" = some (some (.ref c_NoTerm)))
    (X_NoTerm : PySem.W.excIn K c_NoTerm [.type "ValueError", .type "Exception", .type "BaseException", .type "object"] "ValueError.__new__" = true)
    (KC_NoTerm : PySem.W.keepIn K (.ref c_NoTerm) = true)
    (S_NoTerm : PySem.W.subIn K (.ref c_NoTerm) (.type "BaseException") = some true)
    (T_NoTerm : PySem.W.typeIn K (.ref c_NoTerm) = some (.type "type"))
    (E1_NoTerm : PySem.W.findIn K (.ref c_NoTerm) "__getattribute__" = some (some (.builtin "BaseException.__getattribute__")))
    (E2_NoTerm : PySem.W.findIn K (.ref c_NoTerm) "__getattr__" = some none)
    (E4_NoTerm : PySem.W.hasDictIn K c_NoTerm = true)
    (E5_NoTerm : PySem.W.findIn K (.ref c_NoTerm) "__class__" = some (some (.builtin "object.__class__")))
    (E8_NoTerm : PySem.W.mroIn K c_NoTerm (.type "object") = some true)
    (E6 : PySem.W.specialIn K (.builtin "object.__class__") "__get__" = some (some (.builtin "getset_descriptor.__get__")))
    (E7 : PySem.W.takesIn K (.builtin "object.__class__") = some true)
    (S_LoreError : PySem.W.subIn K (.ref c_LoreError) (.type "BaseException") = some true)
    (T_LoreError : PySem.W.typeIn K (.ref c_LoreError) = some (.type "type"))
    (E4_LoreError : PySem.W.hasDictIn K c_LoreError = true)
    (S_NoAtom : PySem.W.subIn K (.ref c_NoAtom) (.type "BaseException") = some true)
    (T_NoAtom : PySem.W.typeIn K (.ref c_NoAtom) = some (.type "type"))
    (E4_NoAtom : PySem.W.hasDictIn K c_NoAtom = true)
    (S_NoField : PySem.W.subIn K (.ref c_NoField) (.type "BaseException") = some true)
    (T_NoField : PySem.W.typeIn K (.ref c_NoField) = some (.type "type"))
    (E4_NoField : PySem.W.hasDictIn K c_NoField = true)
    (U_NoNotions_LoreError : PySem.W.subIn K (.ref c_NoNotions) (.ref c_LoreError) = some true)
    (U_NoNotions_NoAtom : PySem.W.subIn K (.ref c_NoNotions) (.ref c_NoAtom) = some false)
    (Z_NoNotions_NoAtom : c_NoNotions ≠ c_NoAtom)
    (U_NoNotions_NoField : PySem.W.subIn K (.ref c_NoNotions) (.ref c_NoField) = some false)
    (Z_NoNotions_NoField : c_NoNotions ≠ c_NoField)
    (U_NoNotions_NoNotions : PySem.W.subIn K (.ref c_NoNotions) (.ref c_NoNotions) = some true)
    (U_NoNotions_NoTerm : PySem.W.subIn K (.ref c_NoNotions) (.ref c_NoTerm) = some false)
    (Z_NoNotions_NoTerm : c_NoNotions ≠ c_NoTerm)
    (U_NoTerm_LoreError : PySem.W.subIn K (.ref c_NoTerm) (.ref c_LoreError) = some true)
    (U_NoTerm_NoAtom : PySem.W.subIn K (.ref c_NoTerm) (.ref c_NoAtom) = some false)
    (Z_NoTerm_NoAtom : c_NoTerm ≠ c_NoAtom)
    (U_NoTerm_NoField : PySem.W.subIn K (.ref c_NoTerm) (.ref c_NoField) = some false)
    (Z_NoTerm_NoField : c_NoTerm ≠ c_NoField)
    (U_NoTerm_NoNotions : PySem.W.subIn K (.ref c_NoTerm) (.ref c_NoNotions) = some false)
    (Z_NoTerm_NoNotions : c_NoTerm ≠ c_NoNotions)
    (U_NoTerm_NoTerm : PySem.W.subIn K (.ref c_NoTerm) (.ref c_NoTerm) = some true) :
    ∃ fd : FuncData, (∀ (s : Shared) (u : Value), BindsTo s fd ⟨[u], []⟩ [("script", u)]) ∧ ∃ ct : Gx, ∀ base : Heap, K.In base → base.Ns mainGlobals mg → FnG P w K mg base (L2.CX P w) 13 fa fd ["script"] (spOf K ct (List.length (α := Str) ["script"]) d_law) := by
  have e : f_law = fa := Value.ref.inj (Option.some.inj ((PySem.W.mg_of X G A_law).symm.trans hfa))
  subst e
  let ct : Gx := ⟨fun x => if x = "NoNotions" then some c_NoNotions else if x = "NoTerm" then some c_NoTerm else none, 0, ⟨"", none⟩, none, none⟩
  let T : Txt K mg ct := {
    a_is_number_in := f_is_number_in
    fd_is_number_in := (PySem.W.fnOf "is_number_in" "is_number_in" (defArgs s_is_number_in) (defBody s_is_number_in) (defScope s_is_number_in) .none kV_is_number_in dc_is_number_in pm_is_number_in an_is_number_in cd_is_number_in ct_is_number_in)
    F_is_number_in := fun_mk L_is_number_in C_is_number_in K_is_number_in
    m_is_number_in := PySem.W.mg_of X G A_is_number_in
    b_is_number_in := Fun.binds (ps := ["thing", "least", "most"]) (fun_mk (st := s_is_number_in) L_is_number_in C_is_number_in K_is_number_in) fun _ _ _ _ _ _ us hl => match us, hl with | [_, _, _], _ => rfl
    a_is_name := f_is_name
    fd_is_name := (PySem.W.fnOf "_is_name" "_is_name" (defArgs s_is_name) (defBody s_is_name) (defScope s_is_name) .none kV_is_name dc_is_name pm_is_name an_is_name cd_is_name ct_is_name)
    F_is_name := fun_mk L_is_name C_is_name K_is_name
    m_is_name := PySem.W.mg_of X G A_is_name
    b_is_name := Fun.binds (ps := ["thing"]) (fun_mk (st := s_is_name) L_is_name C_is_name K_is_name) fun _ _ _ _ _ _ us hl => match us, hl with | [_], _ => rfl
    a_places_of_one := f_places_of_one
    fd_places_of_one := (PySem.W.fnOf "_places_of_one" "_places_of_one" (defArgs s_places_of_one) (defBody s_places_of_one) (defScope s_places_of_one) .none kV_places_of_one dc_places_of_one pm_places_of_one an_places_of_one cd_places_of_one ct_places_of_one)
    F_places_of_one := fun_mk L_places_of_one C_places_of_one K_places_of_one
    m_places_of_one := PySem.W.mg_of X G A_places_of_one
    b_places_of_one := Fun.binds (ps := ["word", "places"]) (fun_mk (st := s_places_of_one) L_places_of_one C_places_of_one K_places_of_one) fun _ _ _ _ _ _ us hl => match us, hl with | [_, _], _ => rfl
    a_places_of_two := f_places_of_two
    fd_places_of_two := (PySem.W.fnOf "_places_of_two" "_places_of_two" (defArgs s_places_of_two) (defBody s_places_of_two) (defScope s_places_of_two) .none kV_places_of_two dc_places_of_two pm_places_of_two an_places_of_two cd_places_of_two ct_places_of_two)
    F_places_of_two := fun_mk L_places_of_two C_places_of_two K_places_of_two
    m_places_of_two := PySem.W.mg_of X G A_places_of_two
    b_places_of_two := Fun.binds (ps := ["word", "places", "others"]) (fun_mk (st := s_places_of_two) L_places_of_two C_places_of_two K_places_of_two) fun _ _ _ _ _ _ us hl => match us, hl with | [_, _, _], _ => rfl
    a_terms_by_text := f_terms_by_text
    fd_terms_by_text := (PySem.W.fnOf "terms_by_text" "terms_by_text" (defArgs s_terms_by_text) (defBody s_terms_by_text) (defScope s_terms_by_text) .none kV_terms_by_text dc_terms_by_text pm_terms_by_text an_terms_by_text cd_terms_by_text ct_terms_by_text)
    F_terms_by_text := fun_mk L_terms_by_text C_terms_by_text K_terms_by_text
    m_terms_by_text := PySem.W.mg_of X G A_terms_by_text
    b_terms_by_text := Fun.binds (ps := ["found"]) (fun_mk (st := s_terms_by_text) L_terms_by_text C_terms_by_text K_terms_by_text) fun _ _ _ _ _ _ us hl => match us, hl with | [_], _ => rfl
    a_l_pool := f_l_pool
    fd_l_pool := (PySem.W.fnOf "_law_pool" "_law_pool" (defArgs s_l_pool) (defBody s_l_pool) (defScope s_l_pool) .none kV_l_pool dc_l_pool pm_l_pool an_l_pool cd_l_pool ct_l_pool)
    F_l_pool := fun_mk L_l_pool C_l_pool K_l_pool
    m_l_pool := PySem.W.mg_of X G A_l_pool
    b_l_pool := Fun.binds (ps := ["script", "k"]) (fun_mk (st := s_l_pool) L_l_pool C_l_pool K_l_pool) fun _ _ _ _ _ _ us hl => match us, hl with | [_, _], _ => rfl
    a_l_take := f_l_take
    fd_l_take := (PySem.W.fnOf "_law_take" "_law_take" (defArgs s_l_take) (defBody s_l_take) (defScope s_l_take) .none kV_l_take dc_l_take pm_l_take an_l_take cd_l_take ct_l_take)
    F_l_take := fun_mk L_l_take C_l_take K_l_take
    m_l_take := PySem.W.mg_of X G A_l_take
    b_l_take := Fun.binds (ps := ["pool", "many"]) (fun_mk (st := s_l_take) L_l_take C_l_take K_l_take) fun _ _ _ _ _ _ us hl => match us, hl with | [_, _], _ => rfl
    a_l_folded := f_l_folded
    fd_l_folded := (PySem.W.fnOf "_law_folded" "_law_folded" (defArgs s_l_folded) (defBody s_l_folded) (defScope s_l_folded) .none kV_l_folded dc_l_folded pm_l_folded an_l_folded cd_l_folded ct_l_folded)
    F_l_folded := fun_mk L_l_folded C_l_folded K_l_folded
    m_l_folded := PySem.W.mg_of X G A_l_folded
    b_l_folded := Fun.binds (ps := ["script", "top"]) (fun_mk (st := s_l_folded) L_l_folded C_l_folded K_l_folded) fun _ _ _ _ _ _ us hl => match us, hl with | [_, _], _ => rfl
    a_is_notions := f_is_notions
    fd_is_notions := (PySem.W.fnOf "is_notions" "is_notions" (defArgs s_is_notions) (defBody s_is_notions) (defScope s_is_notions) .none kV_is_notions dc_is_notions pm_is_notions an_is_notions cd_is_notions ct_is_notions)
    F_is_notions := fun_mk L_is_notions C_is_notions K_is_notions
    m_is_notions := PySem.W.mg_of X G A_is_notions
    b_is_notions := Fun.binds (ps := ["thing"]) (fun_mk (st := s_is_notions) L_is_notions C_is_notions K_is_notions) fun _ _ _ _ _ _ us hl => match us, hl with | [_], _ => rfl
    a_l_names := f_l_names
    fd_l_names := (PySem.W.fnOf "_law_names" "_law_names" (defArgs s_l_names) (defBody s_l_names) (defScope s_l_names) .none kV_l_names dc_l_names pm_l_names an_l_names cd_l_names ct_l_names)
    F_l_names := fun_mk L_l_names C_l_names K_l_names
    m_l_names := PySem.W.mg_of X G A_l_names
    b_l_names := Fun.binds (ps := ["pool", "many"]) (fun_mk (st := s_l_names) L_l_names C_l_names K_l_names) fun _ _ _ _ _ _ us hl => match us, hl with | [_, _], _ => rfl
    a_l_term := f_l_term
    fd_l_term := (PySem.W.fnOf "_law_term" "_law_term" (defArgs s_l_term) (defBody s_l_term) (defScope s_l_term) .none kV_l_term dc_l_term pm_l_term an_l_term cd_l_term ct_l_term)
    F_l_term := fun_mk L_l_term C_l_term K_l_term
    m_l_term := PySem.W.mg_of X G A_l_term
    b_l_term := Fun.binds (ps := ["pool", "notions", "deep"]) (fun_mk (st := s_l_term) L_l_term C_l_term K_l_term) fun _ _ _ _ _ _ us hl => match us, hl with | [_, _, _], _ => rfl
    a_l_odd := f_l_odd
    fd_l_odd := (PySem.W.fnOf "_law_odd" "_law_odd" (defArgs s_l_odd) (defBody s_l_odd) (defScope s_l_odd) .none kV_l_odd dc_l_odd pm_l_odd an_l_odd cd_l_odd ct_l_odd)
    F_l_odd := fun_mk L_l_odd C_l_odd K_l_odd
    m_l_odd := PySem.W.mg_of X G A_l_odd
    b_l_odd := Fun.binds (ps := ["pool"]) (fun_mk (st := s_l_odd) L_l_odd C_l_odd K_l_odd) fun _ _ _ _ _ _ us hl => match us, hl with | [_], _ => rfl
    a_require_notions := f_require_notions
    fd_require_notions := (PySem.W.fnOf "_require_notions" "_require_notions" (defArgs s_require_notions) (defBody s_require_notions) (defScope s_require_notions) .none kV_require_notions dc_require_notions pm_require_notions an_require_notions cd_require_notions ct_require_notions)
    F_require_notions := fun_mk L_require_notions C_require_notions K_require_notions
    m_require_notions := PySem.W.mg_of X G A_require_notions
    b_require_notions := Fun.binds (ps := ["thing"]) (fun_mk (st := s_require_notions) L_require_notions C_require_notions K_require_notions) fun _ _ _ _ _ _ us hl => match us, hl with | [_], _ => rfl
    a_l_notions := f_l_notions
    fd_l_notions := (PySem.W.fnOf "_law_notions" "_law_notions" (defArgs s_l_notions) (defBody s_l_notions) (defScope s_l_notions) .none kV_l_notions dc_l_notions pm_l_notions an_l_notions cd_l_notions ct_l_notions)
    F_l_notions := fun_mk L_l_notions C_l_notions K_l_notions
    m_l_notions := PySem.W.mg_of X G A_l_notions
    b_l_notions := Fun.binds (ps := ["pool"]) (fun_mk (st := s_l_notions) L_l_notions C_l_notions K_l_notions) fun _ _ _ _ _ _ us hl => match us, hl with | [_], _ => rfl
    a_l_about := f_l_about
    fd_l_about := (PySem.W.fnOf "_law_about" "_law_about" (defArgs s_l_about) (defBody s_l_about) (defScope s_l_about) .none kV_l_about dc_l_about pm_l_about an_l_about cd_l_about ct_l_about)
    F_l_about := fun_mk L_l_about C_l_about K_l_about
    m_l_about := PySem.W.mg_of X G A_l_about
    b_l_about := Fun.binds (ps := ["pool", "notions", "term"]) (fun_mk (st := s_l_about) L_l_about C_l_about K_l_about) fun _ _ _ _ _ _ us hl => match us, hl with | [_, _, _], _ => rfl
    a_l_parts := f_l_parts
    fd_l_parts := (PySem.W.fnOf "_law_parts" "_law_parts" (defArgs s_l_parts) (defBody s_l_parts) (defScope s_l_parts) .none kV_l_parts dc_l_parts pm_l_parts an_l_parts cd_l_parts ct_l_parts)
    F_l_parts := fun_mk L_l_parts C_l_parts K_l_parts
    m_l_parts := PySem.W.mg_of X G A_l_parts
    b_l_parts := Fun.binds (ps := ["term"]) (fun_mk (st := s_l_parts) L_l_parts C_l_parts K_l_parts) fun _ _ _ _ _ _ us hl => match us, hl with | [_], _ => rfl
    a_l_text := f_l_text
    fd_l_text := (PySem.W.fnOf "_law_text" "_law_text" (defArgs s_l_text) (defBody s_l_text) (defScope s_l_text) .none kV_l_text dc_l_text pm_l_text an_l_text cd_l_text ct_l_text)
    F_l_text := fun_mk L_l_text C_l_text K_l_text
    m_l_text := PySem.W.mg_of X G A_l_text
    b_l_text := Fun.binds (ps := ["term"]) (fun_mk (st := s_l_text) L_l_text C_l_text K_l_text) fun _ _ _ _ _ _ us hl => match us, hl with | [_], _ => rfl
    a_l_places := f_l_places
    fd_l_places := (PySem.W.fnOf "_law_places" "_law_places" (defArgs s_l_places) (defBody s_l_places) (defScope s_l_places) .none kV_l_places dc_l_places pm_l_places an_l_places cd_l_places ct_l_places)
    F_l_places := fun_mk L_l_places C_l_places K_l_places
    m_l_places := PySem.W.mg_of X G A_l_places
    b_l_places := Fun.binds (ps := ["notions", "thing", "left"]) (fun_mk (st := s_l_places) L_l_places C_l_places K_l_places) fun _ _ _ _ _ _ us hl => match us, hl with | [_, _, _], _ => rfl
    a_enter_term := f_enter_term
    fd_enter_term := (PySem.W.fnOf "enter_term" "enter_term" (defArgs s_enter_term) (defBody s_enter_term) (defScope s_enter_term) (.ref dd_enter_term) kV_enter_term dc_enter_term pm_enter_term an_enter_term cd_enter_term ct_enter_term)
    F_enter_term := ⟨⟨_, _, _, _, _, _, _, _, _, _, rfl, L_enter_term, C_enter_term⟩, K_enter_term⟩
    m_enter_term := PySem.W.mg_of X G A_enter_term
    b_enter_term := fun s us X hl => by
      have h1 : us.length = 4 := by simpa using hl
      match us, h1 with
      | [_, _, _, _], _ => exact BindsTo.of_looks fun M => looks_dfl X D_enter_term rfl rfl rfl
    dt_enter_term := dt_enter_term
    bd_enter_term := fun s us X hl => by
      have h1 : us.length = 3 := by simpa using hl
      match us, h1 with
      | [_, _, _], _ => exact BindsTo.of_looks fun M => looks_dfl X D_enter_term rfl rfl rfl
    a_l_due_parts := f_l_due_parts
    fd_l_due_parts := (PySem.W.fnOf "_law_due_parts" "_law_due_parts" (defArgs s_l_due_parts) (defBody s_l_due_parts) (defScope s_l_due_parts) .none kV_l_due_parts dc_l_due_parts pm_l_due_parts an_l_due_parts cd_l_due_parts ct_l_due_parts)
    F_l_due_parts := fun_mk L_l_due_parts C_l_due_parts K_l_due_parts
    m_l_due_parts := PySem.W.mg_of X G A_l_due_parts
    b_l_due_parts := Fun.binds (ps := ["term"]) (fun_mk (st := s_l_due_parts) L_l_due_parts C_l_due_parts K_l_due_parts) fun _ _ _ _ _ _ us hl => match us, hl with | [_], _ => rfl
    a_parts_within := f_parts_within
    fd_parts_within := (PySem.W.fnOf "parts_within" "parts_within" (defArgs s_parts_within) (defBody s_parts_within) (defScope s_parts_within) .none kV_parts_within dc_parts_within pm_parts_within an_parts_within cd_parts_within ct_parts_within)
    F_parts_within := fun_mk L_parts_within C_parts_within K_parts_within
    m_parts_within := PySem.W.mg_of X G A_parts_within
    b_parts_within := Fun.binds (ps := ["notions", "thing"]) (fun_mk (st := s_parts_within) L_parts_within C_parts_within K_parts_within) fun _ _ _ _ _ _ us hl => match us, hl with | [_, _], _ => rfl
    a_l_spoilt := f_l_spoilt
    fd_l_spoilt := (PySem.W.fnOf "_law_spoilt" "_law_spoilt" (defArgs s_l_spoilt) (defBody s_l_spoilt) (defScope s_l_spoilt) .none kV_l_spoilt dc_l_spoilt pm_l_spoilt an_l_spoilt cd_l_spoilt ct_l_spoilt)
    F_l_spoilt := fun_mk L_l_spoilt C_l_spoilt K_l_spoilt
    m_l_spoilt := PySem.W.mg_of X G A_l_spoilt
    b_l_spoilt := Fun.binds (ps := ["pool", "thing", "deep"]) (fun_mk (st := s_l_spoilt) L_l_spoilt C_l_spoilt K_l_spoilt) fun _ _ _ _ _ _ us hl => match us, hl with | [_, _, _], _ => rfl
    a_is_term := f_is_term
    fd_is_term := (PySem.W.fnOf "is_term" "is_term" (defArgs s_is_term) (defBody s_is_term) (defScope s_is_term) .none kV_is_term dc_is_term pm_is_term an_is_term cd_is_term ct_is_term)
    F_is_term := fun_mk L_is_term C_is_term K_is_term
    m_is_term := PySem.W.mg_of X G A_is_term
    b_is_term := Fun.binds (ps := ["notions", "thing"]) (fun_mk (st := s_is_term) L_is_term C_is_term K_is_term) fun _ _ _ _ _ _ us hl => match us, hl with | [_, _], _ => rfl
    a_read := f_read
    fd_read := (PySem.W.fnOf "_read" "_read" (defArgs s_read) (defBody s_read) (defScope s_read) .none kV_read dc_read pm_read an_read cd_read ct_read)
    F_read := fun_mk L_read C_read K_read
    m_read := PySem.W.mg_of X G A_read
    b_read := Fun.binds (ps := ["notions", "term"]) (fun_mk (st := s_read) L_read C_read K_read) fun _ _ _ _ _ _ us hl => match us, hl with | [_, _], _ => rfl
    a_l_same := f_l_same
    fd_l_same := (PySem.W.fnOf "_law_same" "_law_same" (defArgs s_l_same) (defBody s_l_same) (defScope s_l_same) .none kV_l_same dc_l_same pm_l_same an_l_same cd_l_same ct_l_same)
    F_l_same := fun_mk L_l_same C_l_same K_l_same
    m_l_same := PySem.W.mg_of X G A_l_same
    b_l_same := Fun.binds (ps := ["found", "due"]) (fun_mk (st := s_l_same) L_l_same C_l_same K_l_same) fun _ _ _ _ _ _ us hl => match us, hl with | [_, _], _ => rfl
    a_places_of := f_places_of
    fd_places_of := (PySem.W.fnOf "places_of" "places_of" (defArgs s_places_of) (defBody s_places_of) (defScope s_places_of) .none kV_places_of dc_places_of pm_places_of an_places_of cd_places_of ct_places_of)
    F_places_of := fun_mk L_places_of C_places_of K_places_of
    m_places_of := PySem.W.mg_of X G A_places_of
    b_places_of := Fun.binds (ps := ["notions", "term"]) (fun_mk (st := s_places_of) L_places_of C_places_of K_places_of) fun _ _ _ _ _ _ us hl => match us, hl with | [_, _], _ => rfl
    a_parts_of := f_parts_of
    fd_parts_of := (PySem.W.fnOf "parts_of" "parts_of" (defArgs s_parts_of) (defBody s_parts_of) (defScope s_parts_of) .none kV_parts_of dc_parts_of pm_parts_of an_parts_of cd_parts_of ct_parts_of)
    F_parts_of := fun_mk L_parts_of C_parts_of K_parts_of
    m_parts_of := PySem.W.mg_of X G A_parts_of
    b_parts_of := Fun.binds (ps := ["notions", "term"]) (fun_mk (st := s_parts_of) L_parts_of C_parts_of K_parts_of) fun _ _ _ _ _ _ us hl => match us, hl with | [_, _], _ => rfl
    a_term_text := f_term_text
    fd_term_text := (PySem.W.fnOf "term_text" "term_text" (defArgs s_term_text) (defBody s_term_text) (defScope s_term_text) .none kV_term_text dc_term_text pm_term_text an_term_text cd_term_text ct_term_text)
    F_term_text := fun_mk L_term_text C_term_text K_term_text
    m_term_text := PySem.W.mg_of X G A_term_text
    b_term_text := Fun.binds (ps := ["notions", "term"]) (fun_mk (st := s_term_text) L_term_text C_term_text K_term_text) fun _ _ _ _ _ _ us hl => match us, hl with | [_, _], _ => rfl
    a_l_told := f_l_told
    fd_l_told := (PySem.W.fnOf "_law_told" "_law_told" (defArgs s_l_told) (defBody s_l_told) (defScope s_l_told) .none kV_l_told dc_l_told pm_l_told an_l_told cd_l_told ct_l_told)
    F_l_told := fun_mk L_l_told C_l_told K_l_told
    m_l_told := PySem.W.mg_of X G A_l_told
    b_l_told := Fun.binds (ps := ["way", "notions", "thing"]) (fun_mk (st := s_l_told) L_l_told C_l_told K_l_told) fun _ _ _ _ _ _ us hl => match us, hl with | [_, _, _], _ => rfl
    a_l_refused := f_l_refused
    fd_l_refused := (PySem.W.fnOf "_law_refused" "_law_refused" (defArgs s_l_refused) (defBody s_l_refused) (defScope s_l_refused) .none kV_l_refused dc_l_refused pm_l_refused an_l_refused cd_l_refused ct_l_refused)
    F_l_refused := fun_mk L_l_refused C_l_refused K_l_refused
    m_l_refused := PySem.W.mg_of X G A_l_refused
    b_l_refused := Fun.binds (ps := ["way", "notions", "thing"]) (fun_mk (st := s_l_refused) L_l_refused C_l_refused K_l_refused) fun _ _ _ _ _ _ us hl => match us, hl with | [_, _, _], _ => rfl
    a_l_right := f_l_right
    fd_l_right := (PySem.W.fnOf "_law_right" "_law_right" (defArgs s_l_right) (defBody s_l_right) (defScope s_l_right) .none kV_l_right dc_l_right pm_l_right an_l_right cd_l_right ct_l_right)
    F_l_right := fun_mk L_l_right C_l_right K_l_right
    m_l_right := PySem.W.mg_of X G A_l_right
    b_l_right := Fun.binds (ps := ["notions", "thing"]) (fun_mk (st := s_l_right) L_l_right C_l_right K_l_right) fun _ _ _ _ _ _ us hl => match us, hl with | [_, _], _ => rfl
    a_law := f_law
    fd_law := (PySem.W.fnOf "law" "law" (defArgs s_law) (defBody s_law) (defScope s_law) .none kV_law dc_law pm_law an_law cd_law ct_law)
    F_law := fun_mk L_law C_law K_law
    m_law := PySem.W.mg_of X G A_law
    b_law := Fun.binds (ps := ["script"]) (fun_mk (st := s_law) L_law C_law K_law) fun _ _ _ _ _ _ us hl => match us, hl with | [_], _ => rfl
    n_all := PySem.W.mg_none_of X G N_all
    n_bool := PySem.W.mg_none_of X G N_bool
    n_dict := PySem.W.mg_none_of X G N_dict
    n_int := PySem.W.mg_none_of X G N_int
    n_isinstance := PySem.W.mg_none_of X G N_isinstance
    n_len := PySem.W.mg_none_of X G N_len
    n_list := PySem.W.mg_none_of X G N_list
    n_max := PySem.W.mg_none_of X G N_max
    n_min := PySem.W.mg_none_of X G N_min
    n_range := PySem.W.mg_none_of X G N_range
    n_repr := PySem.W.mg_none_of X G N_repr
    n_sorted := PySem.W.mg_none_of X G N_sorted
    n_str := PySem.W.mg_none_of X G N_str
    n_sum := PySem.W.mg_none_of X G N_sum
    n_tuple := PySem.W.mg_none_of X G N_tuple
    n_type := PySem.W.mg_none_of X G N_type
    n_zip := PySem.W.mg_none_of X G N_zip
    k_MOST_LETTERS := fun {Y} {W} {pos} hK hm hg => se_glob hg (by rw [hm]; exact PySem.W.mg_of X G A_MOST_LETTERS) (show RelV (.int 8) _ from ⟨MOST_LETTERS_t0, rfl⟩) (fun _ _ => (.int 8))
    k_MOST_NOTIONS := fun {Y} {W} {pos} hK hm hg => se_glob hg (by rw [hm]; exact PySem.W.mg_of X G A_MOST_NOTIONS) (show RelV (.int 3) _ from ⟨MOST_NOTIONS_t0, rfl⟩) (fun _ _ => (.int 3))
    k_MOST_PLACES := fun {Y} {W} {pos} hK hm hg => se_glob hg (by rw [hm]; exact PySem.W.mg_of X G A_MOST_PLACES) (show RelV (.int 2) _ from ⟨MOST_PLACES_t0, rfl⟩) (fun _ _ => (.int 2))
    k_MOST_TUPLES := fun {Y} {W} {pos} hK hm hg => se_glob hg (by rw [hm]; exact PySem.W.mg_of X G A_MOST_TUPLES) (show RelV (.int 3) _ from ⟨MOST_TUPLES_t0, rfl⟩) (fun _ _ => (.int 3))
    k_WORDS := fun {Y} {W} {pos} hK hm hg => se_glob hg (by rw [hm]; exact PySem.W.mg_of X G A_WORDS) (show RelV (.ref q_WORDS) _ from rfl) (fun F H => by
      rw [hK]
      exact .tup (xs := [.str "not", .str "both", .str "either", .str "turned", .str "chain", .str "some"]) (.inr ⟨_, #[(.str "not" WORDS_t0), (.str "both" WORDS_t1), (.str "either" WORDS_t2), (.str "turned" WORDS_t3), (.str "chain" WORDS_t4), (.str "some" WORDS_t5)], n_WORDS, L_WORDS, rfl, rfl, rfl, by show 6 ≤ sizeLine; decide, (.cons ⟨WORDS_t0, rfl⟩ (.cons ⟨WORDS_t1, rfl⟩ (.cons ⟨WORDS_t2, rfl⟩ (.cons ⟨WORDS_t3, rfl⟩ (.cons ⟨WORDS_t4, rfl⟩ (.cons ⟨WORDS_t5, rfl⟩ .nil))))))⟩) (.cons (.str "not" (by decide +kernel)) (.cons (.str "both" (by decide +kernel)) (.cons (.str "either" (by decide +kernel)) (.cons (.str "turned" (by decide +kernel)) (.cons (.str "chain" (by decide +kernel)) (.cons (.str "some" (by decide +kernel)) .nil)))))))
    c_LoreError := c_LoreError
    g_LoreError := PySem.W.mg_of X G A_LoreError
    c_NoAtom := c_NoAtom
    g_NoAtom := PySem.W.mg_of X G A_NoAtom
    c_NoField := c_NoField
    g_NoField := PySem.W.mg_of X G A_NoField
    c_NoNotions := c_NoNotions
    g_NoNotions := PySem.W.mg_of X G A_NoNotions
    x_NoNotions := X_NoNotions
    kC_NoNotions := KC_NoNotions
    s_NoNotions := S_NoNotions
    t_NoNotions := T_NoNotions
    h_NoNotions := by
      show (if ("NoNotions" : String) = "NoNotions" then some c_NoNotions else if ("NoNotions" : String) = "NoTerm" then some c_NoTerm else none) = some c_NoNotions
      simp
    E_NoNotions := ⟨E1_NoNotions, E2_NoNotions, S_NoNotions, E4_NoNotions, E5_NoNotions, E6, E7, E8_NoNotions⟩
    c_NoTerm := c_NoTerm
    g_NoTerm := PySem.W.mg_of X G A_NoTerm
    x_NoTerm := X_NoTerm
    kC_NoTerm := KC_NoTerm
    s_NoTerm := S_NoTerm
    t_NoTerm := T_NoTerm
    h_NoTerm := by
      show (if ("NoTerm" : String) = "NoNotions" then some c_NoNotions else if ("NoTerm" : String) = "NoTerm" then some c_NoTerm else none) = some c_NoTerm
      simp
    E_NoTerm := ⟨E1_NoTerm, E2_NoTerm, S_NoTerm, E4_NoTerm, E5_NoTerm, E6, E7, E8_NoTerm⟩
    e_NoNotions_LoreError := PySem.W.exm_ref S_LoreError E4_LoreError T_LoreError U_NoNotions_LoreError
    e_NoTerm_LoreError := PySem.W.exm_ref S_LoreError E4_LoreError T_LoreError U_NoTerm_LoreError
    i_NoNotions_NoTerm := (Px.kit_ref E4_NoTerm T_NoTerm U_NoNotions_NoTerm (fun e => absurd e Z_NoNotions_NoTerm))
    i_NoTerm_NoTerm := (Px.kit_ref E4_NoTerm T_NoTerm U_NoTerm_NoTerm (fun _ => rfl))
    i_NoNotions_NoAtom_NoField_NoNotions := Px.kit_three (Px.kit_ref E4_NoAtom T_NoAtom U_NoNotions_NoAtom (fun e => absurd e Z_NoNotions_NoAtom)) (Px.kit_ref E4_NoField T_NoField U_NoNotions_NoField (fun e => absurd e Z_NoNotions_NoField)) (Px.kit_ref E4_NoNotions T_NoNotions U_NoNotions_NoNotions (fun _ => rfl))
    i_NoTerm_NoAtom_NoField_NoNotions := Px.kit_three (Px.kit_ref E4_NoAtom T_NoAtom U_NoTerm_NoAtom (fun e => absurd e Z_NoTerm_NoAtom)) (Px.kit_ref E4_NoField T_NoField U_NoTerm_NoField (fun e => absurd e Z_NoTerm_NoField)) (Px.kit_ref E4_NoNotions T_NoNotions U_NoTerm_NoNotions (fun e => absurd e Z_NoTerm_NoNotions)) }
  exact ⟨T.fd_law, fun s u => .of_eq rfl, ct, fun base _ _ => ok_law T⟩
end G03
open PySem PySem.W PyProof.Rows
theorem PySem.Challenge.cw_lorestead_k03_terms_known_holds : PySem.Challenge.rw_lorestead_k03_terms_known.Holds := by
  w_on; o_law; k_head; (case hw => w_witness2)
  k_fill
  refine Px.walk_px (l := PySem.Challenge.rw_lorestead_k03_terms_known) (n := 63) (k := 13) (D := G03.d_law) rfl (by decide) rfl ⟨rfl, by decide, by decide⟩ (fun w h Y => PySem.W.kIn_of Y) ?F G03.d_law_true
  case F =>
    intro w mg fa h KX G hmg
    refine' G03.all_mk KX G hmg ?A_is_number_in ?L_is_number_in ?C_is_number_in ?K_is_number_in ?A_is_name ?L_is_name ?C_is_name ?K_is_name ?A_places_of_one ?L_places_of_one ?C_places_of_one ?K_places_of_one ?A_places_of_two ?L_places_of_two ?C_places_of_two ?K_places_of_two ?A_terms_by_text ?L_terms_by_text ?C_terms_by_text ?K_terms_by_text ?A_l_pool ?L_l_pool ?C_l_pool ?K_l_pool ?A_l_take ?L_l_take ?C_l_take ?K_l_take ?A_l_folded ?L_l_folded ?C_l_folded ?K_l_folded ?A_is_notions ?L_is_notions ?C_is_notions ?K_is_notions ?A_l_names ?L_l_names ?C_l_names ?K_l_names ?A_l_term ?L_l_term ?C_l_term ?K_l_term ?A_l_odd ?L_l_odd ?C_l_odd ?K_l_odd ?A_require_notions ?L_require_notions ?C_require_notions ?K_require_notions ?A_l_notions ?L_l_notions ?C_l_notions ?K_l_notions ?A_l_about ?L_l_about ?C_l_about ?K_l_about ?A_l_parts ?L_l_parts ?C_l_parts ?K_l_parts ?A_l_text ?L_l_text ?C_l_text ?K_l_text ?A_l_places ?L_l_places ?C_l_places ?K_l_places ?A_enter_term ?L_enter_term ?D_enter_term ?C_enter_term ?K_enter_term ?A_l_due_parts ?L_l_due_parts ?C_l_due_parts ?K_l_due_parts ?A_parts_within ?L_parts_within ?C_parts_within ?K_parts_within ?A_l_spoilt ?L_l_spoilt ?C_l_spoilt ?K_l_spoilt ?A_is_term ?L_is_term ?C_is_term ?K_is_term ?A_read ?L_read ?C_read ?K_read ?A_l_same ?L_l_same ?C_l_same ?K_l_same ?A_places_of ?L_places_of ?C_places_of ?K_places_of ?A_parts_of ?L_parts_of ?C_parts_of ?K_parts_of ?A_term_text ?L_term_text ?C_term_text ?K_term_text ?A_l_told ?L_l_told ?C_l_told ?K_l_told ?A_l_refused ?L_l_refused ?C_l_refused ?K_l_refused ?A_l_right ?L_l_right ?C_l_right ?K_l_right ?A_law ?L_law ?C_law ?K_law ?N_all ?N_bool ?N_dict ?N_int ?N_isinstance ?N_len ?N_list ?N_max ?N_min ?N_range ?N_repr ?N_sorted ?N_str ?N_sum ?N_tuple ?N_type ?N_zip ?A_MOST_LETTERS ?A_MOST_NOTIONS ?A_MOST_PLACES ?A_MOST_TUPLES ?A_WORDS ?L_WORDS ?A_LoreError ?A_NoAtom ?A_NoField ?A_NoNotions ?X_NoNotions ?KC_NoNotions ?S_NoNotions ?T_NoNotions ?E1_NoNotions ?E2_NoNotions ?E4_NoNotions ?E5_NoNotions ?E8_NoNotions ?A_NoTerm ?X_NoTerm ?KC_NoTerm ?S_NoTerm ?T_NoTerm ?E1_NoTerm ?E2_NoTerm ?E4_NoTerm ?E5_NoTerm ?E8_NoTerm ?E6 ?E7 ?S_LoreError ?T_LoreError ?E4_LoreError ?S_NoAtom ?T_NoAtom ?E4_NoAtom ?S_NoField ?T_NoField ?E4_NoField ?U_NoNotions_LoreError ?U_NoNotions_NoAtom ?Z_NoNotions_NoAtom ?U_NoNotions_NoField ?Z_NoNotions_NoField ?U_NoNotions_NoNotions ?U_NoNotions_NoTerm ?Z_NoNotions_NoTerm ?U_NoTerm_LoreError ?U_NoTerm_NoAtom ?Z_NoTerm_NoAtom ?U_NoTerm_NoField ?Z_NoTerm_NoField ?U_NoTerm_NoNotions ?Z_NoTerm_NoNotions ?U_NoTerm_NoTerm
    (case A_is_number_in => k_is)
    (case L_is_number_in => k_is)
    (case C_is_number_in => k_is)
    (case K_is_number_in => k_is)
    (case A_is_name => k_is)
    (case L_is_name => k_is)
    (case C_is_name => k_is)
    (case K_is_name => k_is)
    (case A_places_of_one => k_is)
    (case L_places_of_one => k_is)
    (case C_places_of_one => k_is)
    (case K_places_of_one => k_is)
    (case A_places_of_two => k_is)
    (case L_places_of_two => k_is)
    (case C_places_of_two => k_is)
    (case K_places_of_two => k_is)
    (case A_terms_by_text => k_is)
    (case L_terms_by_text => k_is)
    (case C_terms_by_text => k_is)
    (case K_terms_by_text => k_is)
    (case A_l_pool => k_is)
    (case L_l_pool => k_is)
    (case C_l_pool => k_is)
    (case K_l_pool => k_is)
    (case A_l_take => k_is)
    (case L_l_take => k_is)
    (case C_l_take => k_is)
    (case K_l_take => k_is)
    (case A_l_folded => k_is)
    (case L_l_folded => k_is)
    (case C_l_folded => k_is)
    (case K_l_folded => k_is)
    (case A_is_notions => k_is)
    (case L_is_notions => k_is)
    (case C_is_notions => k_is)
    (case K_is_notions => k_is)
    (case A_l_names => k_is)
    (case L_l_names => k_is)
    (case C_l_names => k_is)
    (case K_l_names => k_is)
    (case A_l_term => k_is)
    (case L_l_term => k_is)
    (case C_l_term => k_is)
    (case K_l_term => k_is)
    (case A_l_odd => k_is)
    (case L_l_odd => k_is)
    (case C_l_odd => k_is)
    (case K_l_odd => k_is)
    (case A_require_notions => k_is)
    (case L_require_notions => k_is)
    (case C_require_notions => k_is)
    (case K_require_notions => k_is)
    (case A_l_notions => k_is)
    (case L_l_notions => k_is)
    (case C_l_notions => k_is)
    (case K_l_notions => k_is)
    (case A_l_about => k_is)
    (case L_l_about => k_is)
    (case C_l_about => k_is)
    (case K_l_about => k_is)
    (case A_l_parts => k_is)
    (case L_l_parts => k_is)
    (case C_l_parts => k_is)
    (case K_l_parts => k_is)
    (case A_l_text => k_is)
    (case L_l_text => k_is)
    (case C_l_text => k_is)
    (case K_l_text => k_is)
    (case A_l_places => k_is)
    (case L_l_places => k_is)
    (case C_l_places => k_is)
    (case K_l_places => k_is)
    (case A_enter_term => k_is)
    (case L_enter_term => k_is)
    (case D_enter_term => k_is)
    (case C_enter_term => k_is)
    (case K_enter_term => k_is)
    (case A_l_due_parts => k_is)
    (case L_l_due_parts => k_is)
    (case C_l_due_parts => k_is)
    (case K_l_due_parts => k_is)
    (case A_parts_within => k_is)
    (case L_parts_within => k_is)
    (case C_parts_within => k_is)
    (case K_parts_within => k_is)
    (case A_l_spoilt => k_is)
    (case L_l_spoilt => k_is)
    (case C_l_spoilt => k_is)
    (case K_l_spoilt => k_is)
    (case A_is_term => k_is)
    (case L_is_term => k_is)
    (case C_is_term => k_is)
    (case K_is_term => k_is)
    (case A_read => k_is)
    (case L_read => k_is)
    (case C_read => k_is)
    (case K_read => k_is)
    (case A_l_same => k_is)
    (case L_l_same => k_is)
    (case C_l_same => k_is)
    (case K_l_same => k_is)
    (case A_places_of => k_is)
    (case L_places_of => k_is)
    (case C_places_of => k_is)
    (case K_places_of => k_is)
    (case A_parts_of => k_is)
    (case L_parts_of => k_is)
    (case C_parts_of => k_is)
    (case K_parts_of => k_is)
    (case A_term_text => k_is)
    (case L_term_text => k_is)
    (case C_term_text => k_is)
    (case K_term_text => k_is)
    (case A_l_told => k_is)
    (case L_l_told => k_is)
    (case C_l_told => k_is)
    (case K_l_told => k_is)
    (case A_l_refused => k_is)
    (case L_l_refused => k_is)
    (case C_l_refused => k_is)
    (case K_l_refused => k_is)
    (case A_l_right => k_is)
    (case L_l_right => k_is)
    (case C_l_right => k_is)
    (case K_l_right => k_is)
    (case A_law => k_is)
    (case L_law => k_is)
    (case C_law => k_is)
    (case K_law => k_is)
    (case N_all => k_is)
    (case N_bool => k_is)
    (case N_dict => k_is)
    (case N_int => k_is)
    (case N_isinstance => k_is)
    (case N_len => k_is)
    (case N_list => k_is)
    (case N_max => k_is)
    (case N_min => k_is)
    (case N_range => k_is)
    (case N_repr => k_is)
    (case N_sorted => k_is)
    (case N_str => k_is)
    (case N_sum => k_is)
    (case N_tuple => k_is)
    (case N_type => k_is)
    (case N_zip => k_is)
    (case A_MOST_LETTERS => k_is)
    (case A_MOST_NOTIONS => k_is)
    (case A_MOST_PLACES => k_is)
    (case A_MOST_TUPLES => k_is)
    (case A_WORDS => k_is)
    (case L_WORDS => k_is)
    (case A_LoreError => k_is)
    (case A_NoAtom => k_is)
    (case A_NoField => k_is)
    (case A_NoNotions => k_is)
    (case X_NoNotions => k_exc)
    (case KC_NoNotions => k_is)
    (case S_NoNotions => k_is)
    (case T_NoNotions => k_is)
    (case E1_NoNotions => k_is)
    (case E2_NoNotions => k_is)
    (case E4_NoNotions => k_is)
    (case E5_NoNotions => k_is)
    (case E8_NoNotions => k_is)
    (case A_NoTerm => k_is)
    (case X_NoTerm => k_exc)
    (case KC_NoTerm => k_is)
    (case S_NoTerm => k_is)
    (case T_NoTerm => k_is)
    (case E1_NoTerm => k_is)
    (case E2_NoTerm => k_is)
    (case E4_NoTerm => k_is)
    (case E5_NoTerm => k_is)
    (case E8_NoTerm => k_is)
    (case E6 => k_is)
    (case E7 => k_is)
    (case S_LoreError => k_is)
    (case T_LoreError => k_is)
    (case E4_LoreError => k_is)
    (case S_NoAtom => k_is)
    (case T_NoAtom => k_is)
    (case E4_NoAtom => k_is)
    (case S_NoField => k_is)
    (case T_NoField => k_is)
    (case E4_NoField => k_is)
    (case U_NoNotions_LoreError => first | rfl | k_is)
    (case U_NoNotions_NoAtom => first | rfl | k_is)
    (case Z_NoNotions_NoAtom => decide)
    (case U_NoNotions_NoField => first | rfl | k_is)
    (case Z_NoNotions_NoField => decide)
    (case U_NoNotions_NoNotions => first | rfl | k_is)
    (case U_NoNotions_NoTerm => first | rfl | k_is)
    (case Z_NoNotions_NoTerm => decide)
    (case U_NoTerm_LoreError => first | rfl | k_is)
    (case U_NoTerm_NoAtom => first | rfl | k_is)
    (case Z_NoTerm_NoAtom => decide)
    (case U_NoTerm_NoField => first | rfl | k_is)
    (case Z_NoTerm_NoField => decide)
    (case U_NoTerm_NoNotions => first | rfl | k_is)
    (case Z_NoTerm_NoNotions => decide)
    (case U_NoTerm_NoTerm => first | rfl | k_is)
#print axioms PySem.Challenge.cw_lorestead_k03_terms_known_holds
