import PyProof.Rows.All
import Wide.All
import OpenK.AllK
import Wide.FinOn
import PySem.Challenge.RW_lorestead_k01_refusals_stand_alone
import HandS.Base
import HandS.Call
import HandS.List
import HandS.Comp
import HandS.Exc
import HandS.Ends
import HandS.Words
import HandS.ExcValue
import HandS.ExcInit
import HandS.TupAny
import HandS.IsInst
import HandS.Text
import HandS.Iter
import HandS.Wide
import HandS.Deep
import HandS.ExcOwn
import HandS.TryOnly
import HandS.WordsExc
import HandS.CallSlots
import HandS.Zip
import HandS.ExcIs
import HandS.WordsDict
import HandS.Conv
import HandS.RaiseMore
import KE.KRevSl
import HandS.SetBool
import HandS.SetKeys
import HandS.Dict
import PyProof.NeKinds
import HandS.EndBits
import HandS.ExcField
import KE.KExcIs
import KE.KExcSuper
import HandS.FStr
import HandS.ExcBuiltin
import PyProof.StrBlock2
import HandS.ForExc
import KE.KExcLine
set_option Elab.async false
set_option linter.all false
set_option maxRecDepth 100000
set_option maxHeartbeats 8000000
/-! Px: a second, functional reading over HandS: values are data (PyData), a def is a function of its arguments' data; what it may change stands in a numbered store -/
namespace Px
open PySem PySem.Spec PyProof.Rows L2

/-! ### data that stands in the heap and no longer changes -/
/-- at dx: an exception's own dict with its number -/
def numO (dx : Addr) (i : Int) : HO := .ext fun h => ∃ (od : Obj) (t : Tok), h.get? dx = some od ∧ PySem.W.lookIn "number" od = some (some (.int i t))
def FzL (K : PySem.W.Frag) (F : Addr → Prop) (H : Hp) (a : Addr) (xs : List V) : Prop := (F a ∧ Rd H a (.lst xs)) ∨ SqL K (fun _ => none) a xs
def FzT (K : PySem.W.Frag) (F : Addr → Prop) (H : Hp) (a : Addr) (xs : List V) : Prop := (F a ∧ Rd H a (.tup xs)) ∨ SqT K (fun _ => none) a xs
def keyD : Key → PyData
  | .inl i => .int i
  | .inr x => .str x
mutual
inductive Rp (K : PySem.W.Frag) (F : Addr → Prop) (H : Hp) : V → PyData → Prop
  | non : Rp K F H .non .none
  | bl (b : Bool) : Rp K F H (.bl b) (.bool b)
  | int (i : Int) : Rp K F H (.int i) (.int i)
  | str (x : Str) : PyData.strOk x = true → Rp K F H (.str x) (.str x)
  | lst {a : Addr} {xs : List V} {ds : List PyData} : FzL K F H a xs → RpA K F H xs ds → Rp K F H (.ref a) (.list ds)
  | tup {a : Addr} {xs : List V} {ds : List PyData} : FzT K F H a xs → RpA K F H xs ds → Rp K F H (.ref a) (.tuple ds)
  | dic {a : Addr} {xs : List (Key × V)} {ds : List (PyData × PyData)} : F a → Rd H a (.dK xs) → RpD K F H xs ds → Rp K F H (.ref a) (.dict ds)
  | exn {a C : Addr} {nm : Str} : F a → PySem.W.nsIn K mainGlobals nm = some (some (.ref C)) → H a = some (ExO (.ref C) a) → Rp K F H (.ref a) (.dict [(.none, .str nm)])
  | exm {a dx C : Addr} {nm : Str} {i : Int} : F a → F dx → PySem.W.nsIn K mainGlobals nm = some (some (.ref C)) → H a = some (exo a C (some dx)) → H dx = some (numO dx i) → Rp K F H (.ref a) (.dict [(.none, .str nm), (.none, .int i)])
inductive RpA (K : PySem.W.Frag) (F : Addr → Prop) (H : Hp) : List V → List PyData → Prop
  | nil : RpA K F H [] []
  | cons {v : V} {vs : List V} {d : PyData} {ds : List PyData} : Rp K F H v d → RpA K F H vs ds → RpA K F H (v :: vs) (d :: ds)
inductive RpD (K : PySem.W.Frag) (F : Addr → Prop) (H : Hp) : List (Key × V) → List (PyData × PyData) → Prop
  | nil : RpD K F H [] []
  | cons {k : Key} {v : V} {vs : List (Key × V)} {d : PyData} {ds : List (PyData × PyData)} : Rp K F H v d → RpD K F H vs ds → RpD K F H ((k, v) :: vs) ((keyD k, d) :: ds)
end

/-- what is frozen stays frozen and as it is -/
def Fr (F : Addr → Prop) (H : Hp) (F' : Addr → Prop) (H' : Hp) : Prop := ∀ a, F a → F' a ∧ H' a = H a
theorem Fr.refl {F : Addr → Prop} {H : Hp} : Fr F H F H := fun _ h => ⟨h, rfl⟩
theorem Fr.trans {F F1 F2 : Addr → Prop} {H H1 H2 : Hp} (x : Fr F H F1 H1) (y : Fr F1 H1 F2 H2) : Fr F H F2 H2 := fun a h => ⟨(y a (x a h).1).1, (y a (x a h).1).2.trans (x a h).2⟩
section
variable {K : PySem.W.Frag} {F F' : Addr → Prop} {H H' : Hp}
theorem Fr.rd {a : Addr} {u : HO} (e : Fr F H F' H') (h : F a) (r : Rd H a u) : Rd H' a u := by
  have e2 := (e a h).2
  rcases r with r | ⟨o, r⟩
  · exact .inl (e2.trans r)
  · exact .inr ⟨o, e2.trans r⟩
theorem FzL.mono {a : Addr} {xs : List V} (e : Fr F H F' H') (h : FzL K F H a xs) : FzL K F' H' a xs := by
  rcases h with ⟨f, h⟩ | h
  · exact .inl ⟨(e a f).1, e.rd f h⟩
  · exact .inr h
theorem FzT.mono {a : Addr} {xs : List V} (e : Fr F H F' H') (h : FzT K F H a xs) : FzT K F' H' a xs := by
  rcases h with ⟨f, h⟩ | h
  · exact .inl ⟨(e a f).1, e.rd f h⟩
  · exact .inr h
theorem FzL.sq {a : Addr} {xs : List V} (h : FzL K F H a xs) : SqL K H a xs := by
  rcases h with ⟨f, h⟩ | h
  · exact .inl h
  · rcases h with (h | ⟨_, h⟩) | h
    · cases h
    · cases h
    · exact .inr h
theorem FzT.sq {a : Addr} {xs : List V} (h : FzT K F H a xs) : SqT K H a xs := by
  rcases h with ⟨f, h⟩ | h
  · exact .inl h
  · rcases h with (h | ⟨_, h⟩) | h
    · cases h
    · cases h
    · exact .inr h
mutual
theorem Rp.mono (e : Fr F H F' H') : ∀ (d : PyData) (v : V), Rp K F H v d → Rp K F' H' v d
  | .none, _, h => by cases h; exact .non
  | .bool b, _, h => by cases h; exact .bl b
  | .int i, _, h => by cases h; exact .int i
  | .str x, _, h => by
    cases h with
    | str _ k => exact .str x k
  | .list ds, _, h => by
    cases h with
    | lst f r => exact .lst (f.mono e) (RpA.mono e ds _ r)
  | .tuple ds, _, h => by
    cases h with
    | tup f r => exact .tup (f.mono e) (RpA.mono e ds _ r)
  | .dict ds, _, h => by
    cases h with
    | dic f r q => exact .dic (e _ f).1 (e.rd f r) (RpD.mono e ds _ q)
    | exn f n h => exact .exn (e _ f).1 n ((e _ f).2.trans h)
    | exm f g n h k => exact .exm (e _ f).1 (e _ g).1 n ((e _ f).2.trans h) ((e _ g).2.trans k)
theorem RpA.mono (e : Fr F H F' H') : ∀ (ds : List PyData) (vs : List V), RpA K F H vs ds → RpA K F' H' vs ds
  | [], _, h => by cases h; exact .nil
  | d :: ds, _, h => by
    cases h with
    | cons a b => exact .cons (Rp.mono e d _ a) (RpA.mono e ds _ b)
theorem RpD.mono (e : Fr F H F' H') : ∀ (ds : List (PyData × PyData)) (vs : List (Key × V)), RpD K F H vs ds → RpD K F' H' vs ds
  | [], _, h => by cases h; exact .nil
  | (k, d) :: ds, _, h => by
    cases h with
    | cons a b => exact .cons (Rp.mono e d _ a) (RpD.mono e ds _ b)
end
theorem Rp.up {v : V} {d : PyData} (h : Rp K F H v d) (e : Fr F H F' H') : Rp K F' H' v d := Rp.mono e d v h
theorem RpA.up {v : List V} {d : List PyData} (h : RpA K F H v d) (e : Fr F H F' H') : RpA K F' H' v d := RpA.mono e d v h
theorem RpD.up {v : List (Key × V)} {d : List (PyData × PyData)} (h : RpD K F H v d) (e : Fr F H F' H') : RpD K F' H' v d := RpD.mono e d v h
theorem RpA.length : ∀ {vs : List V} {ds : List PyData}, RpA K F H vs ds → vs.length = ds.length
  | _, _, .nil => rfl
  | _, _, .cons _ r => congrArg (· + 1) (RpA.length r)
theorem RpA.get : ∀ {vs : List V} {ds : List PyData} {i : Nat} {d : PyData}, RpA K F H vs ds → ds[i]? = some d → ∃ v, vs[i]? = some v ∧ Rp K F H v d
  | _, _, _, _, .nil, e => by simp at e
  | _, _, 0, _, .cons a _, e => by simp at e; subst e; exact ⟨_, rfl, a⟩
  | _, _, i + 1, d, .cons _ r, e => by
    obtain ⟨v, h1, h2⟩ := RpA.get (i := i) (d := d) r (by simpa using e)
    exact ⟨v, by simpa using h1, h2⟩
theorem RpA.append : ∀ {vs ws : List V} {ds es : List PyData}, RpA K F H vs ds → RpA K F H ws es → RpA K F H (vs ++ ws) (ds ++ es)
  | _, _, _, _, .nil, s => s
  | _, _, _, _, .cons a r, s => .cons a (RpA.append r s)
theorem RpA.take : ∀ {vs : List V} {ds : List PyData} (n : Nat), RpA K F H vs ds → RpA K F H (vs.take n) (ds.take n)
  | _, _, 0, _ => .nil
  | _, _, _ + 1, .nil => .nil
  | _, _, n + 1, .cons a r => .cons a (RpA.take n r)
theorem RpA.drop : ∀ {vs : List V} {ds : List PyData} (n : Nat), RpA K F H vs ds → RpA K F H (vs.drop n) (ds.drop n)
  | _, _, 0, r => r
  | _, _, _ + 1, .nil => .nil
  | _, _, n + 1, .cons _ r => RpA.drop n r
theorem RpA.set {v : V} {d : PyData} (r : Rp K F H v d) : ∀ {vs : List V} {ds : List PyData} (i : Nat), RpA K F H vs ds → RpA K F H (vs.set i v) (ds.set i d)
  | _, _, _, .nil => .nil
  | _, _, 0, .cons _ t => .cons r t
  | _, _, i + 1, .cons q t => .cons q (RpA.set r i t)
theorem RpA.reverse {vs : List V} {ds : List PyData} (r : RpA K F H vs ds) : RpA K F H vs.reverse ds.reverse := by
  induction vs generalizing ds with
  | nil => cases r; exact .nil
  | cons v vs ih =>
    cases r with
    | cons a b =>
      rw [List.reverse_cons, List.reverse_cons]
      exact (ih b).append (.cons a .nil)
theorem RpA.mem {vs : List V} {ds : List PyData} {v : V} (r : RpA K F H vs ds) (h : v ∈ vs) : ∃ d ∈ ds, Rp K F H v d := by
  induction vs generalizing ds with
  | nil => cases h
  | cons w vs ih =>
    cases r with
    | cons a b =>
      rcases List.mem_cons.mp h with e | h
      · subst e; exact ⟨_, List.mem_cons_self, a⟩
      · obtain ⟨d, h1, h2⟩ := ih b h
        exact ⟨d, List.mem_cons_of_mem _ h1, h2⟩
end

/-! ### the store, the slots -/
inductive MO where
  | lst (xs : List PyData)
  | dic (kvs : List (PyData × PyData))
def MO.dat : MO → PyData
  | .lst xs => .list xs
  | .dic kvs => .dict kvs
inductive Cell where
  | live (o : MO)
  | io (o : MO)
  | fz (d : PyData)
def Cell.dat : Cell → PyData
  | .live o => o.dat
  | .io o => o.dat
  | .fz d => d
structure Exn where
  nm : String
  num : Option PyData := none
inductive Sl where
  | non
  | val (d : PyData)
  | ref (n : Nat)
  | hot (x : Exn)
abbrev Sls := List Sl
abbrev Sto := List Cell
/-- what an expression gives: data; a thing of the store; a new thing -/
inductive EV where
  | val (d : PyData)
  | bor (n : Nat)
  | new (o : MO)
def EV.dat (st : Sto) : EV → Option PyData
  | .val d => some d
  | .bor n => st[n]?.map Cell.dat
  | .new o => some o.dat
inductive Re (α : Type) where
  | fail
  | ok (a : α) (st : Sto)
  | exc (x : Exn) (st : Sto)
inductive RS where
  | fail
  | nx (sl : Sls) (st : Sto)
  | rt (d : PyData) (st : Sto)
  | rn (o : MO) (st : Sto)
  | bk (sl : Sls) (st : Sto)
  | ct (sl : Sls) (st : Sto)
  | exc (x : Exn) (sl : Sls) (st : Sto)
abbrev FE := Sls → Sto → Re EV
abbrev FT := Sls → Sto → Re Bool
abbrev FA := Sls → Sto → Re (List EV)
abbrev FS := Sls → Sto → RS

/-- the exceptions' classes by name; the exception that is handled -/
structure Gx where
  tab : String → Option Addr
  hot : Addr := 0
  hx : Exn := ⟨"", none⟩
/-- what is fixed through a def: the written part, the heap and what is frozen at the entry, the things handed in that may change, the exceptions' classes -/
structure Bs where
  K : PySem.W.Frag
  H0 : Hp
  F0 : Addr → Prop
  io : List Addr
  ct : Gx
  pr : List Addr
structure Wd where
  F : Addr → Prop
  ad : List Addr
def MOR (K : PySem.W.Frag) (F : Addr → Prop) (H : Hp) (p : Addr) : MO → Prop
  | .lst xs => ∃ vs, H p = some (.lst vs) ∧ RpA K F H vs xs
  | .dic kvs => ∃ vs, H p = some (.dK vs) ∧ RpD K F H vs kvs
def CellR (K : PySem.W.Frag) (F : Addr → Prop) (H : Hp) (p : Addr) : Cell → Prop
  | .live o => ¬ F p ∧ MOR K F H p o
  | .io o => ¬ F p ∧ MOR K F H p o
  | .fz d => Rp K F H (.ref p) d
def SlR (K : PySem.W.Frag) (F : Addr → Prop) (ad : List Addr) (g : Gx) (H : Hp) (v : Option (Option V)) : Sl → Prop
  | .non => True
  | .val d => ∃ x, v = some (some x) ∧ Rp K F H x d
  | .ref n => ∃ p, ad[n]? = some p ∧ v = some (some (.ref p))
  | .hot x => v = some (some (.ref g.hot)) ∧ x = g.hx
structure SR (B : Bs) (ω : Wd) (H : Hp) (σ : L2.St) (sl : Sls) (st : Sto) : Prop where
  len : σ.length = sl.length
  dom : ∀ a, ω.F a → H a ≠ none
  keep : ∀ a o, B.H0 a = some o → a ∉ B.io → H a = some o
  newF : ∀ a, ω.F a → B.F0 a ∨ B.H0 a = none
  oldF : ∀ a, B.F0 a → ω.F a
  adl : ω.ad.length = st.length
  nd : ω.ad.Nodup
  iop : B.io <+: ω.ad
  adn : ∀ p ∈ ω.ad, p ∈ B.io ∨ B.H0 p = none
  ioc : ∀ (n : Nat) (c : Cell), n < B.io.length → st[n]? = some c → ∃ o, c = .io o
  ioc2 : ∀ (n : Nat) (o : MO), st[n]? = some (.io o) → n < B.io.length
  there : ∀ p ∈ ω.ad, H p ≠ none
  prF : ∀ p ∈ B.pr, ¬ ω.F p
  prA : ∀ p ∈ B.pr, p ∉ ω.ad
  prH : ∀ p ∈ B.pr, H p ≠ none
  slot : ∀ (i : Nat) (s : Sl), sl[i]? = some s → SlR B.K ω.F ω.ad B.ct H σ[i]? s
  cell : ∀ (n : Nat) (c : Cell) (p : Addr), st[n]? = some c → ω.ad[n]? = some p → CellR B.K ω.F H p c
structure Ext (B : Bs) (ω : Wd) (H : Hp) (ω' : Wd) (H' : Hp) : Prop where
  fr : Fr ω.F H ω'.F H'
  ad : ω.ad <+: ω'.ad
  pr : ∀ p ∈ B.pr, H' p = H p
theorem Ext.refl {B : Bs} {ω : Wd} {H : Hp} : Ext B ω H ω H := ⟨Fr.refl, List.prefix_refl _, fun _ _ => rfl⟩
theorem Ext.trans {B : Bs} {ω ω1 ω2 : Wd} {H H1 H2 : Hp} (x : Ext B ω H ω1 H1) (y : Ext B ω1 H1 ω2 H2) : Ext B ω H ω2 H2 := ⟨x.fr.trans y.fr, x.ad.trans y.ad, fun p h => (y.pr p h).trans (x.pr p h)⟩
def VR (B : Bs) (ω : Wd) (H : Hp) (v : V) : EV → Prop
  | .val d => Rp B.K ω.F H v d
  | .bor n => ∃ p, ω.ad[n]? = some p ∧ v = .ref p
  | .new o => ∃ p, v = .ref p ∧ p ∉ ω.ad ∧ (B.H0 p = none ∧ p ∉ B.pr) ∧ ¬ ω.F p ∧ MOR B.K ω.F H p o
/-- an own exception without anything of its own: its class -/
def ExR (B : Bs) (x : Exn) (cls : Value) (d : Option Addr) (H : Hp) : Prop := ∃ C, B.ct.tab x.nm = some C ∧ cls = .ref C ∧ d = none ∧ x.num = none
end Px
namespace Px
open PySem PySem.Spec PyProof.Rows L2

/-! ### what is seen of a thing for a moment -/
inductive Bp (K : PySem.W.Frag) (F : Addr → Prop) (H : Hp) : V → PyData → Prop
  | rp {v : V} {d : PyData} : Rp K F H v d → Bp K F H v d
  | lst {p : Addr} {vs : List V} {xs : List PyData} : H p = some (.lst vs) → RpA K F H vs xs → Bp K F H (.ref p) (.list xs)
  | dic {p : Addr} {vs : List (Key × V)} {xs : List (PyData × PyData)} : H p = some (.dK vs) → RpD K F H vs xs → Bp K F H (.ref p) (.dict xs)
section
variable {K : PySem.W.Frag} {F : Addr → Prop} {H : Hp} {v : V}
theorem Bp.int_ {i : Int} (h : Bp K F H v (.int i)) : v = .int i := by
  cases h with
  | rp h => cases h; rfl
theorem Bp.str_ {i : Str} (h : Bp K F H v (.str i)) : v = .str i := by
  cases h with
  | rp h => cases h; rfl
theorem Bp.ok_ {i : Str} (h : Bp K F H v (.str i)) : PyData.strOk i = true := by
  cases h with
  | rp h =>
    cases h with
    | str _ k => exact k
theorem Bp.bl_ {i : Bool} (h : Bp K F H v (.bool i)) : v = .bl i := by
  cases h with
  | rp h => cases h; rfl
theorem Bp.non_ (h : Bp K F H v .none) : v = .non := by
  cases h with
  | rp h => cases h; rfl
theorem Bp.list_ {ds : List PyData} (h : Bp K F H v (.list ds)) : ∃ a vs, v = .ref a ∧ SqL K H a vs ∧ RpA K F H vs ds := by
  cases h with
  | rp h =>
    cases h with
    | lst f r => exact ⟨_, _, rfl, f.sq, r⟩
  | lst h r => exact ⟨_, _, rfl, .of h, r⟩
theorem Bp.tup_ {ds : List PyData} (h : Bp K F H v (.tuple ds)) : ∃ a vs, v = .ref a ∧ SqT K H a vs ∧ RpA K F H vs ds := by
  cases h with
  | rp h =>
    cases h with
    | tup f r => exact ⟨_, _, rfl, f.sq, r⟩
end

/-! ### nothing that stood is changed -/
structure PEx (F : Addr → Prop) (H : Hp) (F' : Addr → Prop) (H' : Hp) : Prop where
  mono : ∀ a, F a → F' a
  keep : ∀ a, H a ≠ none → H' a = H a
  new : ∀ a, F' a → F a ∨ H a = none
  dom : ∀ a, F' a → H' a ≠ none
theorem PEx.fr {F F' : Addr → Prop} {H H' : Hp} (x : PEx F H F' H') (d : ∀ a, F a → H a ≠ none) : Fr F H F' H' := fun a h => ⟨x.mono a h, x.keep a (d a h)⟩
theorem PEx.refl {F : Addr → Prop} {H : Hp} (d : ∀ a, F a → H a ≠ none) : PEx F H F H := ⟨fun _ h => h, fun _ _ => rfl, fun _ h => .inl h, d⟩
theorem PEx.trans {F F1 F2 : Addr → Prop} {H H1 H2 : Hp} (x : PEx F H F1 H1) (y : PEx F1 H1 F2 H2) : PEx F H F2 H2 where
  mono := fun a h => y.mono a (x.mono a h)
  keep := fun a h => by
    have e := x.keep a h
    rw [← e]
    exact y.keep a (by rw [e]; exact h)
  new := fun a h => by
    rcases y.new a h with q | q
    · exact x.new a q
    · cases e : H a with
      | none => exact .inr rfl
      | some o =>
        have := x.keep a (by rw [e]; intro z; cases z)
        rw [q, e] at this; cases this
  dom := y.dom
theorem upd_some {H : Hp} {p : Addr} {o : HO} {a : Addr} (h : H a ≠ none) : upd H p o a ≠ none := by
  unfold upd
  split
  · intro z; cases z
  · exact h
/-- a new thing, frozen -/
theorem PEx.frz {F : Addr → Prop} {H : Hp} {p : Addr} {o : HO} (d : ∀ a, F a → H a ≠ none) (hp : H p = none) : PEx F H (fun a => F a ∨ a = p) (upd H p o) where
  mono := fun a h => .inl h
  keep := fun a h => upd_ne fun e => h (e ▸ hp)
  new := fun a h => h.imp_right fun e => by rw [e]; exact hp
  dom := fun a h => by
    rcases h with h | h
    · exact upd_some (d a h)
    · subst h; rw [upd_same]; intro z; cases z
/-- a new thing, not frozen -/
theorem PEx.neu {F : Addr → Prop} {H : Hp} {p : Addr} {o : HO} (d : ∀ a, F a → H a ≠ none) (hp : H p = none) : PEx F H F (upd H p o) where
  mono := fun a h => h
  keep := fun a h => upd_ne fun e => h (e ▸ hp)
  new := fun a h => .inl h
  dom := fun a h => upd_some (d a h)

section
variable {B : Bs} {ω ω' : Wd} {H H' : Hp} {σ : L2.St} {sl : Sls} {st : Sto} {v : V} {ev : EV}
theorem CellR.up {K : PySem.W.Frag} {F F' : Addr → Prop} {p : Addr} (e : Fr F H F' H') (k : H p ≠ none → ¬ F p → H' p = H p ∧ ¬ F' p) : ∀ {c : Cell}, CellR K F H p c → CellR K F' H' p c
  | .live (.lst xs), ⟨h, vs, q, r⟩ => ⟨(k (by rw [q]; intro z; cases z) h).2, vs, ((k (by rw [q]; intro z; cases z) h).1).trans q, r.up e⟩
  | .live (.dic xs), ⟨h, vs, q, r⟩ => ⟨(k (by rw [q]; intro z; cases z) h).2, vs, ((k (by rw [q]; intro z; cases z) h).1).trans q, r.up e⟩
  | .io (.lst xs), ⟨h, vs, q, r⟩ => ⟨(k (by rw [q]; intro z; cases z) h).2, vs, ((k (by rw [q]; intro z; cases z) h).1).trans q, r.up e⟩
  | .io (.dic xs), ⟨h, vs, q, r⟩ => ⟨(k (by rw [q]; intro z; cases z) h).2, vs, ((k (by rw [q]; intro z; cases z) h).1).trans q, r.up e⟩
  | .fz d, h => Rp.up h e
theorem SlR.up {K : PySem.W.Frag} {F F' : Addr → Prop} {ad ad' : List Addr} {g : Gx} {x : Option (Option V)} (e : Fr F H F' H') (p : ad <+: ad') : ∀ {s : Sl}, SlR K F ad g H x s → SlR K F' ad' g H' x s
  | .hot _, h => h
  | .non, _ => trivial
  | .val d, ⟨y, h, r⟩ => ⟨y, h, r.up e⟩
  | .ref n, ⟨q, h, r⟩ => ⟨q, by
      obtain ⟨t, rfl⟩ := p
      rw [List.getElem?_append_left (List.getElem?_eq_some_iff.mp h).1]
      exact h, r⟩
theorem SR.pure (s : SR B ω H σ sl st) {F' : Addr → Prop} (x : PEx ω.F H F' H') : SR B ⟨F', ω.ad⟩ H' σ sl st where
  len := s.len
  dom := x.dom
  keep := fun a o e h => by
    have := s.keep a o e h
    rw [x.keep a (by rw [this]; intro z; cases z)]
    exact this
  newF := fun a h => by
    rcases x.new a h with h | h
    · exact s.newF a h
    · cases e : B.H0 a with
      | none => exact .inr rfl
      | some o =>
        by_cases hi : a ∈ B.io
        · exact absurd h (s.there a (s.iop.subset hi))
        · rw [s.keep a o e hi] at h; cases h
  oldF := fun a h => x.mono a (s.oldF a h)
  adl := s.adl
  nd := s.nd
  iop := s.iop
  adn := s.adn
  ioc := s.ioc
  ioc2 := s.ioc2
  there := fun p hp => by rw [x.keep p (s.there p hp)]; exact s.there p hp
  prF := fun p hp h => (x.new p h).elim (s.prF p hp) (s.prH p hp)
  prA := s.prA
  prH := fun p hp => by rw [x.keep p (s.prH p hp)]; exact s.prH p hp
  slot := fun i t h => (s.slot i t h).up (x.fr s.dom) (List.prefix_refl _)
  cell := fun n c p h1 h2 => (s.cell n c p h1 h2).up (x.fr s.dom) fun h3 h4 => ⟨x.keep p h3, fun z => (x.new p z).elim h4 h3⟩
theorem SR.px (s : SR B ω H σ sl st) {F' : Addr → Prop} (x : PEx ω.F H F' H') : Ext B ω H ⟨F', ω.ad⟩ H' := ⟨x.fr s.dom, List.prefix_refl _, fun p hp => x.keep p (s.prH p hp)⟩
/-- what is new to the heap is new to all -/
theorem SR.fresh (s : SR B ω H σ sl st) {p : Addr} (h : H p = none) : p ∉ ω.ad ∧ (B.H0 p = none ∧ p ∉ B.pr) ∧ ¬ ω.F p := by
  have h1 : p ∉ ω.ad := fun hp => s.there p hp h
  refine ⟨h1, ⟨?_, fun z => s.prH p z h⟩, fun z => s.dom p z h⟩
  cases e : B.H0 p with
  | none => rfl
  | some o =>
    have hi : p ∉ B.io := fun hi => h1 (s.iop.subset hi)
    rw [s.keep p o e hi] at h; cases h
theorem MOR.rp {K : PySem.W.Frag} {F : Addr → Prop} {p : Addr} (d : F p) : ∀ {o : MO}, MOR K F H p o → Rp K F H (.ref p) o.dat
  | .lst xs, ⟨vs, h, r⟩ => .lst (.inl ⟨d, .of h⟩) r
  | .dic xs, ⟨vs, h, r⟩ => .dic d (.of h) r
theorem MOR.up {K : PySem.W.Frag} {F F' : Addr → Prop} {p : Addr} (e : Fr F H F' H') (k : H' p = H p) : ∀ {o : MO}, MOR K F H p o → MOR K F' H' p o
  | .lst xs, ⟨vs, h, r⟩ => ⟨vs, k.trans h, r.up e⟩
  | .dic xs, ⟨vs, h, r⟩ => ⟨vs, k.trans h, r.up e⟩
theorem MOR.bp {K : PySem.W.Frag} {F : Addr → Prop} {p : Addr} : ∀ {o : MO}, MOR K F H p o → Bp K F H (.ref p) o.dat
  | .lst xs, ⟨vs, h, r⟩ => .lst h r
  | .dic xs, ⟨vs, h, r⟩ => .dic h r
theorem MOR.some {K : PySem.W.Frag} {F : Addr → Prop} {p : Addr} : ∀ {o : MO}, MOR K F H p o → H p ≠ none
  | .lst xs, ⟨vs, h, r⟩ => by rw [h]; intro z; cases z
  | .dic xs, ⟨vs, h, r⟩ => by rw [h]; intro z; cases z
theorem VR.bp (s : SR B ω H σ sl st) {d : PyData} (h : VR B ω H v ev) (e : ev.dat st = some d) : Bp B.K ω.F H v d := by
  cases ev with
  | val d' => cases e; exact .rp h
  | new o =>
    obtain ⟨p, rfl, _, _, _, m⟩ := h
    cases e
    exact m.bp
  | bor n =>
    obtain ⟨p, h1, rfl⟩ := h
    have e' : st[n]?.map Cell.dat = some d := e
    cases hc : st[n]? with
    | none => rw [hc] at e'; cases e'
    | some c =>
      rw [hc] at e'
      have q := s.cell n c p hc h1
      cases c with
      | live o => cases e'; exact q.2.bp
      | io o => cases e'; exact q.2.bp
      | fz d2 => cases e'; exact .rp q
/-- one more address is frozen -/
theorem SR.frz (s : SR B ω H σ sl st) {p : Addr} {o : MO} (hp : p ∉ ω.ad) (h0 : B.H0 p = none ∧ p ∉ B.pr) (hf : ¬ ω.F p) (m : MOR B.K ω.F H p o) : SR B ⟨fun a => ω.F a ∨ a = p, ω.ad⟩ H σ sl st ∧ Fr ω.F H (fun a => ω.F a ∨ a = p) H := by
  have fr : Fr ω.F H (fun a => ω.F a ∨ a = p) H := fun a h => ⟨.inl h, rfl⟩
  refine ⟨⟨s.len, fun a h => ?_, s.keep, fun a h => ?_, fun a h => .inl (s.oldF a h), s.adl, s.nd, s.iop, s.adn, s.ioc, s.ioc2, s.there, fun q hq z => z.elim (s.prF q hq) (fun e => h0.2 (e ▸ hq)), s.prA, s.prH, fun i t h => (s.slot i t h).up fr (List.prefix_refl _), fun n c q h1 h2 => (s.cell n c q h1 h2).up fr fun h3 h4 => ⟨rfl, fun z => ?_⟩⟩, fr⟩
  · rcases h with h | h
    · exact s.dom a h
    · subst h; exact m.some
  · rcases h with h | h
    · exact s.newF a h
    · subst h; exact .inr h0.1
  · rcases z with z | z
    · exact h4 z
    · subst z; exact hp (List.mem_of_getElem? h2)
def EV.soft : EV → EV
  | .new o => .val o.dat
  | e => e
theorem EV.soft_dat (ev : EV) (st : Sto) : ev.soft.dat st = ev.dat st := by cases ev <;> rfl
theorem VR.soft (s : SR B ω H σ sl st) (h : VR B ω H v ev) : ∃ ω', Ext B ω H ω' H ∧ SR B ω' H σ sl st ∧ VR B ω' H v ev.soft := by
  cases ev with
  | val d => exact ⟨ω, .refl, s, h⟩
  | bor n => exact ⟨ω, .refl, s, h⟩
  | new o =>
    obtain ⟨p, rfl, h1, h2, h3, m⟩ := h
    obtain ⟨s', fr⟩ := s.frz h1 h2 h3 m
    exact ⟨⟨fun a => ω.F a ∨ a = p, ω.ad⟩, ⟨fr, List.prefix_refl _, fun _ _ => rfl⟩, s', MOR.rp (K := B.K) (F := fun a => ω.F a ∨ a = p) (.inr rfl) (m.up fr rfl)⟩
def EV.fix (st : Sto) : EV → Option (PyData × Sto)
  | .val d => some (d, st)
  | .new o => some (o.dat, st)
  | .bor n => match st[n]? with
    | some (.live o) => some (o.dat, st.set n (.fz o.dat))
    | some (.fz d) => some (d, st)
    | _ => none
theorem VR.fix (s : SR B ω H σ sl st) (h : VR B ω H v ev) {d : PyData} {st' : Sto} (e : ev.fix st = some (d, st')) : ∃ ω', Ext B ω H ω' H ∧ SR B ω' H σ sl st' ∧ Rp B.K ω'.F H v d := by
  cases ev with
  | val d =>
    cases e
    exact ⟨ω, .refl, s, h⟩
  | new o =>
    obtain ⟨ω', e1, s', h'⟩ := VR.soft s h
    cases e
    exact ⟨ω', e1, s', h'⟩
  | bor n =>
    obtain ⟨p, h1, rfl⟩ := h
    unfold EV.fix at e
    cases hc : st[n]? with
    | none => simp [hc] at e
    | some c =>
      simp only [hc] at e
      have q := s.cell n c p hc h1
      cases c with
      | io o => cases e
      | fz d2 =>
        cases e
        exact ⟨ω, .refl, s, q⟩
      | live o =>
        cases e
        have hn : n < st.length := (List.getElem?_eq_some_iff.mp hc).1
        have fr : Fr ω.F H (fun a => ω.F a ∨ a = p) H := fun a h => ⟨.inl h, rfl⟩
        have rp : Rp B.K (fun a => ω.F a ∨ a = p) H (.ref p) o.dat := MOR.rp (.inr rfl) (q.2.up fr rfl)
        have nio : ¬ n < B.io.length := fun hl => by
          obtain ⟨o', e'⟩ := s.ioc n _ hl hc
          cases e'
        have pio : p ∉ B.io := fun hp => by
          obtain ⟨j, hj, ej⟩ := List.getElem_of_mem hp
          obtain ⟨t, ht⟩ := s.iop
          have e2 : ω.ad[j]? = some p := by
            rw [← ht, List.getElem?_append_left hj, List.getElem?_eq_getElem hj, ej]
          have l1 := (List.getElem?_eq_some_iff.mp e2).1
          have := (List.getElem?_inj l1 s.nd).mp (e2.trans h1.symm)
          omega
        refine ⟨⟨fun a => ω.F a ∨ a = p, ω.ad⟩, ⟨fr, List.prefix_refl _, fun _ _ => rfl⟩, ⟨s.len, fun a h => ?_, s.keep, fun a h => ?_, fun a h => .inl (s.oldF a h), by rw [List.length_set]; exact s.adl, s.nd, s.iop, s.adn, fun m c hm h => ?_, fun m o hm => ?_, s.there, fun q' hq z => z.elim (s.prF q' hq) (fun e => s.prA q' hq (e ▸ List.mem_of_getElem? h1)), s.prA, s.prH, fun i t h => (s.slot i t h).up fr (List.prefix_refl _), fun m c q' g1 g2 => ?_⟩, rp⟩
        · rcases h with h | h
          · exact s.dom a h
          · subst h; exact q.2.some
        · rcases h with h | h
          · exact s.newF a h
          · subst h
            exact .inr ((s.adn _ (List.mem_of_getElem? h1)).resolve_left pio)
        · rw [List.getElem?_set_ne (by omega)] at h
          exact s.ioc m c hm h
        · by_cases hm' : n = m
          · subst hm'
            rw [List.getElem?_set_self hn] at hm
            cases hm
          · rw [List.getElem?_set_ne hm'] at hm
            exact s.ioc2 m o hm
        · by_cases hm : n = m
          · subst hm
            rw [List.getElem?_set_self hn] at g1
            cases g1
            rw [h1] at g2
            cases g2
            exact rp
          · rw [List.getElem?_set_ne hm] at g1
            refine (s.cell m c q' g1 g2).up fr fun h3 h4 => ⟨rfl, fun z => ?_⟩
            rcases z with z | z
            · exact h4 z
            · subst z
              exact hm ((List.getElem?_inj (List.getElem?_eq_some_iff.mp h1).1 s.nd).mp (h1.trans g2.symm))
end

/-! ### the judgements -/
def OutE (B : Bs) (W : WX) (σ : L2.St) (ω : Wd) (H : Hp) (sl : Sls) (r : Re EV) (Q : VK) : Prop := match r with
  | .fail => False
  | .ok ev st => ∀ v ω' H', Ext B ω H ω' H' → SR B ω' H' σ sl st → VR B ω' H' v ev → Q v H'
  | .exc x st => ∀ cls d ω' H', Ext B ω H ω' H' → SR B ω' H' σ sl st → ExR B x cls d H' → W cls d σ H'
def OutT (B : Bs) (W : WX) (σ : L2.St) (ω : Wd) (H : Hp) (sl : Sls) (r : Re Bool) (Q : Bool → Hp → Prop) : Prop := match r with
  | .fail => False
  | .ok b st => ∀ ω' H', Ext B ω H ω' H' → SR B ω' H' σ sl st → Q b H'
  | .exc x st => ∀ cls d ω' H', Ext B ω H ω' H' → SR B ω' H' σ sl st → ExR B x cls d H' → W cls d σ H'
/-- values one beside the other -/
def VRs (B : Bs) (ω : Wd) (H : Hp) : List V → List EV → Prop := Paired (VR B ω H)
def OutA (B : Bs) (W : WX) (σ : L2.St) (ω : Wd) (H : Hp) (sl : Sls) (r : Re (List EV)) (Q : List V → Hp → Prop) : Prop := match r with
  | .fail => False
  | .ok evs st => ∀ vs ω' H', Ext B ω H ω' H' → SR B ω' H' σ sl st → VRs B ω' H' vs evs → Q vs H'
  | .exc x st => ∀ cls d ω' H', Ext B ω H ω' H' → SR B ω' H' σ sl st → ExR B x cls d H' → W cls d σ H'
def OutS (B : Bs) (W : WX) (ω : Wd) (H : Hp) (r : RS) (D : Ends) : Prop := match r with
  | .fail => False
  | .nx sl st => ∀ σ' ω' H', Ext B ω H ω' H' → SR B ω' H' σ' sl st → D.nx σ' H'
  | .bk sl st => ∀ σ' ω' H', Ext B ω H ω' H' → SR B ω' H' σ' sl st → D.bk σ' H'
  | .ct sl st => ∀ σ' ω' H', Ext B ω H ω' H' → SR B ω' H' σ' sl st → D.ct σ' H'
  | .rt d st => ∀ v σ' ω' H' sl, Ext B ω H ω' H' → SR B ω' H' σ' sl st → Rp B.K ω'.F H' v d → D.rt v H'
  | .rn o st => ∀ v σ' ω' H' sl, Ext B ω H ω' H' → SR B ω' H' σ' sl st → VR B ω' H' v (.new o) → D.rt v H'
  | .exc x sl st => ∀ cls d σ' ω' H', Ext B ω H ω' H' → SR B ω' H' σ' sl st → ExR B x cls d H' → W cls d σ' H'
def SE (X : Cx) (ct : Gx) (W : WX) (e : Expr) (f : FE) : Prop := ∀ (B : Bs), B.K = X.K → B.ct = ct → ∀ sl st, PE X e (fun σ H Q => ∃ ω, SR B ω H σ sl st ∧ OutE B W σ ω H sl (f sl st) Q)
def ST (X : Cx) (ct : Gx) (W : WX) (e : Expr) (f : FT) : Prop := ∀ (B : Bs), B.K = X.K → B.ct = ct → ∀ sl st, PT X e (fun σ H Q => ∃ ω, SR B ω H σ sl st ∧ OutT B W σ ω H sl (f sl st) Q)
def SW (X : Cx) (ct : Gx) (W : WX) (e : Expr) (f : FT) : Prop := ∀ (B : Bs), B.K = X.K → B.ct = ct → ∀ sl st, PW X e (fun σ H Q => ∃ ω, SR B ω H σ sl st ∧ OutT B W σ ω H sl (f sl st) Q)
def SA (X : Cx) (ct : Gx) (W : WX) (es : List Expr) (f : FA) : Prop := ∀ (B : Bs), B.K = X.K → B.ct = ct → ∀ sl st, PA X es (fun σ H Q => ∃ ω, SR B ω H σ sl st ∧ OutA B W σ ω H sl (f sl st) Q)
def SS (X : Cx) (ct : Gx) (W : WX) (s : Stmt) (f : FS) : Prop := ∀ (B : Bs), B.K = X.K → B.ct = ct → ∀ sl st, PS X s (fun D σ H => ∃ ω, SR B ω H σ sl st ∧ OutS B W ω H (f sl st) D)
def SSs (X : Cx) (ct : Gx) (W : WX) (s : List Stmt) (f : FS) : Prop := ∀ (B : Bs), B.K = X.K → B.ct = ct → ∀ sl st, PSs X s (fun D σ H => ∃ ω, SR B ω H σ sl st ∧ OutS B W ω H (f sl st) D)

theorem pe_imp {X : Cx} {e : Expr} {t t' : TE} (h : PE X e t) (i : ∀ σ H Q, t' σ H Q → t σ H Q) : PE X e t' := ⟨fun pins s σ H Q I q => h.run pins s σ H Q I (i _ _ _ q)⟩
theorem pt_imp {X : Cx} {e : Expr} {t t' : TT} (h : PT X e t) (i : ∀ σ H Q, t' σ H Q → t σ H Q) : PT X e t' := ⟨fun pins s σ H Q I q => h.run pins s σ H Q I (i _ _ _ q)⟩
theorem pw_imp {X : Cx} {e : Expr} {t t' : TT} (h : PW X e t) (i : ∀ σ H Q, t' σ H Q → t σ H Q) : PW X e t' := ⟨fun wh pins s σ H Q I q => h.run wh pins s σ H Q I (i _ _ _ q)⟩
theorem pa_imp {X : Cx} {e : List Expr} {t t' : TA} (h : PA X e t) (i : ∀ σ H Q, t' σ H Q → t σ H Q) : PA X e t' := ⟨fun pos pins s σ H Q I q => h.run pos pins s σ H Q I (i _ _ _ q)⟩
theorem ps_imp {X : Cx} {e : Stmt} {t t' : TS} (h : PS X e t) (i : ∀ D σ H, t' D σ H → t D σ H) : PS X e t' := ⟨fun pins s σ H Q I q => h.run pins s σ H Q I (i _ _ _ q)⟩
theorem pss_imp {X : Cx} {e : List Stmt} {t t' : TS} (h : PSs X e t) (i : ∀ D σ H, t' D σ H → t D σ H) : PSs X e t' := ⟨fun pins s σ H Q I q => h.run pins s σ H Q I (i _ _ _ q)⟩

section
variable {B : Bs} {W : WX} {σ : L2.St} {ω ω1 : Wd} {H H1 : Hp} {sl : Sls}
theorem OutE.up {r : Re EV} {Q : VK} (h : OutE B W σ ω H sl r Q) (e : Ext B ω H ω1 H1) : OutE B W σ ω1 H1 sl r Q := by
  cases r with
  | fail => exact h
  | ok ev st => exact fun v ω' H' x => h v ω' H' (e.trans x)
  | exc x st => exact fun cls d ω' H' x => h cls d ω' H' (e.trans x)
theorem OutT.up {r : Re Bool} {Q : Bool → Hp → Prop} (h : OutT B W σ ω H sl r Q) (e : Ext B ω H ω1 H1) : OutT B W σ ω1 H1 sl r Q := by
  cases r with
  | fail => exact h
  | ok ev st => exact fun ω' H' x => h ω' H' (e.trans x)
  | exc x st => exact fun cls d ω' H' x => h cls d ω' H' (e.trans x)
theorem OutA.up {r : Re (List EV)} {Q : List V → Hp → Prop} (h : OutA B W σ ω H sl r Q) (e : Ext B ω H ω1 H1) : OutA B W σ ω1 H1 sl r Q := by
  cases r with
  | fail => exact h
  | ok ev st => exact fun v ω' H' x => h v ω' H' (e.trans x)
  | exc x st => exact fun cls d ω' H' x => h cls d ω' H' (e.trans x)
theorem OutS.up {r : RS} {D : Ends} (h : OutS B W ω H r D) (e : Ext B ω H ω1 H1) : OutS B W ω1 H1 r D := by
  cases r with
  | fail => exact h
  | nx sl st => exact fun σ' ω' H' x => h σ' ω' H' (e.trans x)
  | bk sl st => exact fun σ' ω' H' x => h σ' ω' H' (e.trans x)
  | ct sl st => exact fun σ' ω' H' x => h σ' ω' H' (e.trans x)
  | rt d st => exact fun v σ' ω' H' sl x => h v σ' ω' H' sl (e.trans x)
  | rn d st => exact fun v σ' ω' H' sl x => h v σ' ω' H' sl (e.trans x)
  | exc x sl st => exact fun cls d σ' ω' H' x => h cls d σ' ω' H' (e.trans x)
end
theorem VR.up {B : Bs} {ω ω1 : Wd} {H H1 : Hp} {v : V} (e : Ext B ω H ω1 H1) : ∀ {ev : EV}, VR B ω H v ev.soft → VR B ω1 H1 v ev.soft
  | .val d, h => Rp.up (d := d) h e.fr
  | .new o, h => Rp.up (d := o.dat) h e.fr
  | .bor n, ⟨p, h, q⟩ => ⟨p, by
      obtain ⟨t, ht⟩ := e.ad
      rw [← ht, List.getElem?_append_left (List.getElem?_eq_some_iff.mp h).1]
      exact h, q⟩

/-! ### what an operation gives -/
inductive OR where
  | val (d : PyData)
  | new (o : MO)
def OR.ev : OR → EV
  | .val d => .val d
  | .new o => .new o
def Give (K : PySem.W.Frag) (F : Addr → Prop) (H : Hp) (Q : VK) : OR → Prop
  | .val d => ∀ v F' H', PEx F H F' H' → Rp K F' H' v d → Q v H'
  | .new o => ∀ p H', H p = none → PEx F H F H' → MOR K F H' p o → Q (.ref p) H'
theorem Give.of {B : Bs} {W : WX} {σ : L2.St} {ω : Wd} {H : Hp} {sl : Sls} {st : Sto} {Q : VK} (s : SR B ω H σ sl st) : ∀ {r : OR}, OutE B W σ ω H sl (.ok r.ev st) Q → Give B.K ω.F H Q r
  | .val d, h => fun v F' H' x r => h v ⟨F', ω.ad⟩ H' (s.px x) (s.pure x) r
  | .new o, h => fun p H' hp x m => h (.ref p) ⟨ω.F, ω.ad⟩ H' (s.px x) (s.pure x) (by
      obtain ⟨h1, h2, h3⟩ := s.fresh hp
      exact ⟨p, rfl, h1, h2, h3, m⟩)

/-! ### operations on data -/
def u1 (g : PyData → Option OR) (f : FE) : FE := fun sl st => match f sl st with
  | .fail => .fail
  | .exc x st1 => .exc x st1
  | .ok ev st1 => match ev.dat st1 with
    | none => .fail
    | some d => match g d with
      | none => .fail
      | some r => .ok r.ev st1
def u2 (g : PyData → PyData → Option OR) (f1 f2 : FE) : FE := fun sl st => match f1 sl st with
  | .fail => .fail
  | .exc x st1 => .exc x st1
  | .ok ev1 st1 => match f2 sl st1 with
    | .fail => .fail
    | .exc x st2 => .exc x st2
    | .ok ev2 st2 => match ev1.dat st2, ev2.dat st2 with
      | some d1, some d2 => match g d1 d2 with
        | none => .fail
        | some r => .ok r.ev st2
      | _, _ => .fail
def datAll (st : Sto) : List EV → Option (List PyData)
  | [] => some []
  | ev :: r => match ev.dat st, datAll st r with
    | some d, some ds => some (d :: ds)
    | _, _ => none
def un (g : List PyData → Option OR) (f : FA) : FE := fun sl st => match f sl st with
  | .fail => .fail
  | .exc x st1 => .exc x st1
  | .ok evs st1 => match datAll st1 evs with
    | none => .fail
    | some ds => match g ds with
      | none => .fail
      | some r => .ok r.ev st1
def Bps (K : PySem.W.Frag) (F : Addr → Prop) (H : Hp) : List V → List PyData → Prop := Paired (Bp K F H)
theorem VRs.bps {B : Bs} {ω : Wd} {H : Hp} {σ : L2.St} {sl : Sls} {st : Sto} (s : SR B ω H σ sl st) : ∀ {vs : List V} {evs : List EV} {ds : List PyData}, VRs B ω H vs evs → datAll st evs = some ds → Bps B.K ω.F H vs ds
  | _, _, ds, .nil, e => by cases e; exact .nil
  | _, _, ds, .cons (b := ev) (l₂ := evs) h r, e => by
    unfold datAll at e
    cases h1 : ev.dat st with
    | none => simp [h1] at e
    | some d =>
      cases h2 : datAll st evs with
      | none => simp [h1, h2] at e
      | some ds' =>
        simp only [h1, h2, Option.some.injEq] at e
        subst e
        exact .cons (VR.bp s h h1) (VRs.bps s r h2)
section
variable {X : Cx} {ct : Gx} {W : WX}
theorem se_u1 {a e : Expr} {f : FE} {r : V → Hp → VK → Prop} {g : PyData → Option OR} (rule : ∀ ta, PE X a ta → PE X e (fun σ H Q => ta σ H fun x H1 => r x H1 Q)) (ha : SE X ct W a f)
    (ok : ∀ F H x d o Q, (∀ a, F a → H a ≠ none) → Bp X.K F H x d → g d = some o → Give X.K F H Q o → r x H Q) : SE X ct W e (u1 g f) := by
  intro B hB hc sl st
  refine pe_imp (rule _ (ha B hB hc sl st)) fun σ H Q ⟨ω, s, q⟩ => ⟨ω, s, ?_⟩
  unfold u1 at q
  cases hf : f sl st with
  | fail => rw [hf] at q; exact q
  | exc x st1 => rw [hf] at q; exact q
  | ok ev st1 =>
    rw [hf] at q
    dsimp only at q
    intro v ω' H' x s' hv
    cases hd : ev.dat st1 with
    | none => rw [hd] at q; exact q.elim
    | some d =>
      rw [hd] at q
      dsimp only at q
      cases hg : g d with
      | none => rw [hg] at q; exact q.elim
      | some o =>
        rw [hg] at q
        have b := VR.bp s' hv hd
        have gv := Give.of s' (OutE.up q x)
        rw [hB] at b gv
        exact ok ω'.F H' v d o Q s'.dom b hg gv
theorem se_u2 {a b e : Expr} {f1 f2 : FE} {r : V → V → Hp → VK → Prop} {g : PyData → PyData → Option OR} (rule : ∀ ta tb, PE X a ta → PE X b tb → PE X e (fun σ H Q => ta σ H fun x H1 => tb σ H1 fun y H2 => r x y H2 Q)) (ha : SE X ct W a f1) (hb : SE X ct W b f2)
    (ok : ∀ F H x y d1 d2 o Q, (∀ a, F a → H a ≠ none) → Bp X.K F H x d1 → Bp X.K F H y d2 → g d1 d2 = some o → Give X.K F H Q o → r x y H Q) : SE X ct W e (u2 g f1 f2) := by
  intro B hB hc sl st
  cases hf : f1 sl st with
  | fail =>
    refine pe_imp (rule _ _ (ha B hB hc sl st) (hb B hB hc sl st)) fun σ H Q ⟨ω, s, q⟩ => ?_
    unfold u2 at q
    rw [hf] at q
    exact q.elim
  | exc x st1 =>
    refine pe_imp (rule _ _ (ha B hB hc sl st) (hb B hB hc sl st)) fun σ H Q ⟨ω, s, q⟩ => ⟨ω, s, ?_⟩
    unfold u2 at q
    rw [hf] at q ⊢
    exact q
  | ok ev1 st1 =>
    refine pe_imp (rule _ _ (ha B hB hc sl st) (hb B hB hc sl st1)) fun σ H Q ⟨ω, s, q⟩ => ⟨ω, s, ?_⟩
    unfold u2 at q
    rw [hf] at q ⊢
    dsimp only at q
    intro v ω1 H1 x1 s1 hv
    obtain ⟨ω2, x2, s2, hv2⟩ := VR.soft s1 hv
    refine ⟨ω2, s2, ?_⟩
    have x12 := x1.trans x2
    cases hf2 : f2 sl st1 with
    | fail => rw [hf2] at q; exact q
    | exc x st2 =>
      rw [hf2] at q
      exact OutE.up q x12
    | ok ev2 st2 =>
      rw [hf2] at q
      dsimp only at q
      intro u ω3 H3 x3 s3 hu
      have hv3 := VR.up x3 hv2
      cases hd1 : ev1.dat st2 with
      | none => rw [hd1] at q; exact q.elim
      | some d1 =>
        cases hd2 : ev2.dat st2 with
        | none => rw [hd1, hd2] at q; exact q.elim
        | some d2 =>
          rw [hd1, hd2] at q
          dsimp only at q
          cases hg : g d1 d2 with
          | none => rw [hg] at q; exact q.elim
          | some o =>
            rw [hg] at q
            have b1 := VR.bp s3 hv3 (by rw [EV.soft_dat]; exact hd1)
            have b2 := VR.bp s3 hu hd2
            have gv := Give.of s3 (OutE.up q (x12.trans x3))
            rw [hB] at b1 b2 gv
            exact ok ω3.F H3 v u d1 d2 o Q s3.dom b1 b2 hg gv
theorem se_un {es : List Expr} {e : Expr} {f : FA} {r : List V → Hp → VK → Prop} {g : List PyData → Option OR} (rule : ∀ t, PA X es t → PE X e (fun σ H Q => t σ H fun xs H1 => r xs H1 Q)) (ha : SA X ct W es f)
    (ok : ∀ F H xs ds o Q, (∀ a, F a → H a ≠ none) → Bps X.K F H xs ds → g ds = some o → Give X.K F H Q o → r xs H Q) : SE X ct W e (un g f) := by
  intro B hB hc sl st
  refine pe_imp (rule _ (ha B hB hc sl st)) fun σ H Q ⟨ω, s, q⟩ => ⟨ω, s, ?_⟩
  unfold un at q
  cases hf : f sl st with
  | fail => rw [hf] at q; exact q
  | exc x st1 => rw [hf] at q; exact q
  | ok evs st1 =>
    rw [hf] at q
    dsimp only at q
    intro vs ω' H' x s' hv
    cases hd : datAll st1 evs with
    | none => rw [hd] at q; exact q.elim
    | some ds =>
      rw [hd] at q
      dsimp only at q
      cases hg : g ds with
      | none => rw [hg] at q; exact q.elim
      | some o =>
        rw [hg] at q
        have b := VRs.bps s' hv hd
        have gv := Give.of s' (OutE.up q x)
        rw [hB] at b gv
        exact ok ω'.F H' vs ds o Q s'.dom b hg gv
end
end Px
namespace Px
open PySem PySem.Spec PyProof.Rows L2

def Lim : Nat := 16777216
theorem lim_line : Lim ≤ sizeLine := by rw [sizeLine_eq]; exact Nat.le_refl _

section
variable {X : Cx} {ct : Gx} {W : WX}
/-! ### names, constants -/
def eName (i : Nat) : FE := fun sl st => match sl[i]? with
  | some (.val d) => .ok (.val d) st
  | some (.ref n) => .ok (.bor n) st
  | _ => .fail
theorem se_name (i : Nat) {x : Str} {pos : Pos} (hN : X.N[i]? = some x := by rfl) (hv : Vis X.env.scope x := by first | exact Or.inl rfl | exact Or.inr (Or.inl rfl) | exact Or.inr (Or.inr rfl)) (hd : (x == ("__debug__" : Str)) = false := by decide)
    (hcd : (x == ("__classdict__" : Str)) = false := by decide) : SE X ct W (.Name x pos) (eName i) := by
  intro B hB hc sl st
  refine pe_imp (pe_var hN hv hd hcd) fun σ H Q ⟨ω, s, q⟩ => ?_
  unfold eName at q
  cases hs : sl[i]? with
  | none => rw [hs] at q; exact q.elim
  | some t =>
    rw [hs] at q
    have r := s.slot i t hs
    cases t with
    | non => exact q.elim
    | hot _ => exact q.elim
    | val d =>
      obtain ⟨x, h1, h2⟩ := r
      exact ⟨x, h1, q x ω H .refl s h2⟩
    | ref n =>
      obtain ⟨p, h1, h2⟩ := r
      exact ⟨.ref p, h2, q _ ω H .refl s ⟨p, h1, rfl⟩⟩
def eD (d : PyData) : FE := fun _ st => .ok (.val d) st
theorem se_c {e : Expr} {v : V} {d : PyData} (h : PE X e (tC v)) (r : ∀ F H, Rp X.K F H v d) : SE X ct W e (eD d) := by
  intro B hB hc sl st
  refine pe_imp h fun σ H Q ⟨ω, s, q⟩ => ?_
  exact q v ω H .refl s (by show Rp B.K ω.F H v d; rw [hB]; exact r _ _)
theorem se_int {i j pos} : SE X ct W (.Constant (.int i) j pos) (eD (.int i)) := se_c pe_int fun _ _ => .int i
theorem se_bl {b j pos} : SE X ct W (.Constant (.bool b) j pos) (eD (.bool b)) := se_c pe_bl fun _ _ => .bl b
theorem se_non {j pos} : SE X ct W (.Constant .none j pos) (eD .none) := se_c pe_non fun _ _ => .non
theorem se_str {x : Str} {j pos} (h : PyData.strOk x = true := by decide +kernel) : SE X ct W (.Constant (.str x) j pos) (eD (.str x)) := se_c pe_str fun _ _ => .str x h
/-- a constant of the module -/
theorem se_glob {x : Str} {pos : Pos} {v : V} {u : Value} {d : PyData} (hg : Gl X x) (hm : X.mg x = some u) (r : RelV v u) (rd : ∀ F H, Rp X.K F H v d) (hd : (x == ("__debug__" : Str)) = false := by decide) : SE X ct W (.Name x pos) (eD d) :=
  se_c (pe_glob hg hm r hd) rd

/-! ### arguments, displays -/
def aNil : FA := fun _ st => .ok [] st
def aCons (f : FE) (g : FA) : FA := fun sl st => match f sl st with
  | .fail => .fail
  | .exc x st1 => .exc x st1
  | .ok ev st1 => match g sl st1 with
    | .fail => .fail
    | .exc x st2 => .exc x st2
    | .ok evs st2 => .ok (ev.soft :: evs) st2
theorem sa_nil : SA X ct W [] aNil := by
  intro B hB hc sl st
  refine pa_imp pa_nil fun σ H Q ⟨ω, s, q⟩ => ?_
  exact q [] ω H .refl s .nil
theorem sa_cons {e : Expr} {es : List Expr} {f : FE} {g : FA} (h1 : SE X ct W e f) (h2 : SA X ct W es g) (hs : starEach (e :: es) X.env = (false, eval e X.env) :: starEach es X.env := by rfl) : SA X ct W (e :: es) (aCons f g) := by
  intro B hB hc sl st
  cases hf : f sl st with
  | fail =>
    refine pa_imp (pa_cons (h1 B hB hc sl st) (h2 B hB hc sl st) hs) fun σ H Q ⟨ω, s, q⟩ => ?_
    unfold aCons at q
    rw [hf] at q
    exact q.elim
  | exc x st1 =>
    refine pa_imp (pa_cons (h1 B hB hc sl st) (h2 B hB hc sl st) hs) fun σ H Q ⟨ω, s, q⟩ => ⟨ω, s, ?_⟩
    unfold aCons at q
    rw [hf] at q ⊢
    exact q
  | ok ev st1 =>
    refine pa_imp (pa_cons (h1 B hB hc sl st) (h2 B hB hc sl st1) hs) fun σ H Q ⟨ω, s, q⟩ => ⟨ω, s, ?_⟩
    unfold aCons at q
    rw [hf] at q ⊢
    dsimp only at q
    intro v ω1 H1 x1 s1 hv
    obtain ⟨ω2, x2, s2, hv2⟩ := VR.soft s1 hv
    refine ⟨ω2, s2, ?_⟩
    have x12 := x1.trans x2
    cases hg : g sl st1 with
    | fail => rw [hg] at q; exact q
    | exc x st2 => rw [hg] at q; exact OutA.up q x12
    | ok evs st2 =>
      rw [hg] at q
      dsimp only at q
      intro vs ω3 H3 x3 s3 hvs
      exact q (v :: vs) ω3 H3 (x12.trans x3) s3 (.cons (VR.up x3 hv2) hvs)
theorem VRs.up {B : Bs} {ω ω1 : Wd} {H H1 : Hp} (x : Ext B ω H ω1 H1) : ∀ {evs : List EV} {vs : List V}, VRs B ω H vs (evs.map EV.soft) → VRs B ω1 H1 vs (evs.map EV.soft)
  | [], _, .nil => .nil
  | _ :: _, _, .cons a b => .cons (VR.up x a) (VRs.up x b)
/-- all of them data -/
def fixAll (st : Sto) : List EV → Option (List PyData × Sto)
  | [] => some ([], st)
  | ev :: r => match ev.fix st with
    | none => none
    | some (d, st1) => match fixAll st1 r with
      | none => none
      | some (ds, st2) => some (d :: ds, st2)
theorem VRs.fix {B : Bs} {H : Hp} {σ : L2.St} {sl : Sls} : ∀ {evs : List EV} {vs : List V} {ω : Wd} {st st' : Sto} {ds : List PyData}, SR B ω H σ sl st → VRs B ω H vs (evs.map EV.soft) → fixAll st (evs.map EV.soft) = some (ds, st') →
    ∃ ω', Ext B ω H ω' H ∧ SR B ω' H σ sl st' ∧ RpA B.K ω'.F H vs ds
  | [], _, ω, st, st', ds, s, .nil, e => by
    cases e
    exact ⟨ω, .refl, s, .nil⟩
  | ev :: evs, _, ω, st, st', ds, s, .cons (a := v) (l₁ := vs) h r, e => by
    have e' : fixAll st (ev.soft :: evs.map EV.soft) = some (ds, st') := e
    unfold fixAll at e'
    cases h1 : ev.soft.fix st with
    | none => simp [h1] at e'
    | some p =>
      obtain ⟨d, st1⟩ := p
      simp only [h1] at e'
      cases h2 : fixAll st1 (evs.map EV.soft) with
      | none => simp [h2] at e'
      | some p2 =>
        obtain ⟨ds2, st2⟩ := p2
        simp only [h2, Option.some.injEq, Prod.mk.injEq] at e'
        obtain ⟨rfl, rfl⟩ := e'
        obtain ⟨ω1, x1, s1, r1⟩ := VR.fix s h h1
        have r' : VRs B ω1 H vs (evs.map EV.soft) := VRs.up x1 r
        obtain ⟨ω2, x2, s2, r2⟩ := VRs.fix s1 r' h2
        exact ⟨ω2, x1.trans x2, s2, .cons (r1.up x2.fr) r2⟩
theorem soft_soft (ev : EV) : ev.soft.soft = ev.soft := by cases ev <;> rfl
/-- what an argument list gives is soft -/
def SoftA (f : FA) : Prop := ∀ sl st evs st', f sl st = .ok evs st' → evs.map EV.soft = evs
theorem soft_nil : SoftA aNil := fun sl st evs st' h => by cases h; rfl
theorem soft_cons {f : FE} {g : FA} (h : SoftA g) : SoftA (aCons f g) := fun sl st evs st' e => by
  unfold aCons at e
  cases h1 : f sl st with
  | fail => rw [h1] at e; cases e
  | exc x st1 => rw [h1] at e; cases e
  | ok ev st1 =>
    rw [h1] at e
    dsimp only at e
    cases h2 : g sl st1 with
    | fail => rw [h2] at e; cases e
    | exc x st1 => rw [h2] at e; cases e
    | ok evs2 st2 =>
      rw [h2] at e
      cases e
      rw [List.map_cons, soft_soft, h _ _ _ _ h2]
def eDisp (mk : List PyData → OR) (f : FA) : FE := fun sl st => match f sl st with
  | .fail => .fail
  | .exc x st1 => .exc x st1
  | .ok evs st1 => match fixAll st1 evs with
    | none => .fail
    | some (ds, st2) => if ds.length ≤ Lim then .ok (mk ds).ev st2 else .fail
theorem se_disp {es : List Expr} {e : Expr} {f : FA} {mk : List PyData → OR} {r : List V → Hp → VK → Prop} (rule : ∀ t, PA X es t → PE X e (fun σ H Q => t σ H fun xs H1 => r xs H1 Q)) (ha : SA X ct W es f) (hs : SoftA f)
    (ok : ∀ F H xs ds Q, (∀ a, F a → H a ≠ none) → RpA X.K F H xs ds → ds.length ≤ sizeLine → Give X.K F H Q (mk ds) → r xs H Q) : SE X ct W e (eDisp mk f) := by
  intro B hB hc sl st
  refine pe_imp (rule _ (ha B hB hc sl st)) fun σ H Q ⟨ω, s, q⟩ => ⟨ω, s, ?_⟩
  unfold eDisp at q
  cases hf : f sl st with
  | fail => rw [hf] at q; exact q
  | exc x st1 => rw [hf] at q; exact q
  | ok evs st1 =>
    rw [hf] at q
    dsimp only at q
    intro vs ω' H' x s' hv
    cases hd : fixAll st1 evs with
    | none => rw [hd] at q; exact q.elim
    | some p =>
      obtain ⟨ds, st2⟩ := p
      rw [hd] at q
      dsimp only at q
      by_cases hl : ds.length ≤ Lim
      · rw [if_pos hl] at q
        have hm := hs _ _ _ _ hf
        obtain ⟨ω2, x2, s2, r2⟩ := VRs.fix (evs := evs) (ω := ω') s' (by rw [hm]; exact hv) (by rw [hm]; exact hd)
        have gv := Give.of s2 (OutE.up q (x.trans x2))
        rw [hB] at r2 gv
        exact ok ω2.F H' vs ds Q s2.dom r2 (Nat.le_trans hl lim_line) gv
      · rw [if_neg hl] at q; exact q.elim
def eTup (f : FA) : FE := eDisp (fun ds => .val (.tuple ds)) f
def eLst (f : FA) : FE := eDisp (fun ds => .new (.lst ds)) f
theorem se_tup {es : List Expr} {f : FA} {k pos} (h : SA X ct W es f) (hs : SoftA f) : SE X ct W (.Tuple es k pos) (eTup f) := by
  refine se_disp (fun t ht => pe_tup ht) h hs fun F H xs ds Q dm r hl g => ?_
  refine ⟨by rw [r.length]; exact hl, fun p hp => ?_⟩
  have px : PEx F H (fun a => F a ∨ a = p) (upd H p (.tup xs)) := PEx.frz dm hp
  exact g (.ref p) _ _ px (.tup (.inl ⟨.inr rfl, .of upd_same⟩) (r.up (px.fr dm)))
theorem se_lst {es : List Expr} {f : FA} {pos} (h : SA X ct W es f) (hs : SoftA f) : SE X ct W (.List es pos) (eLst f) := by
  refine se_disp (fun t ht => pe_lst ht) h hs fun F H xs ds Q dm r hl g => ?_
  refine ⟨by rw [r.length]; exact hl, fun p hp => ?_⟩
  have px : PEx F H F (upd H p (.lst xs)) := PEx.neu dm hp
  exact g p _ hp px ⟨xs, upd_same, r.up (px.fr dm)⟩
/-- what gives data that stands already -/
theorem Give.here {K : PySem.W.Frag} {F : Addr → Prop} {H : Hp} {Q : VK} {d : PyData} {v : V} (dm : ∀ a, F a → H a ≠ none) (g : Give K F H Q (.val d)) (r : Rp K F H v d) : Q v H := g v F H (PEx.refl dm) r
theorem Give.tup {K : PySem.W.Frag} {F : Addr → Prop} {H : Hp} {Q : VK} {ds : List PyData} {xs : List V} {p : Addr} (dm : ∀ a, F a → H a ≠ none) (g : Give K F H Q (.val (.tuple ds))) (hp : H p = none) (r : RpA K F H xs ds) : Q (.ref p) (upd H p (.tup xs)) := by
  have px : PEx F H (fun a => F a ∨ a = p) (upd H p (.tup xs)) := PEx.frz dm hp
  exact g (.ref p) _ _ px (.tup (.inl ⟨.inr rfl, .of upd_same⟩) (r.up (px.fr dm)))
theorem Give.lst {K : PySem.W.Frag} {F : Addr → Prop} {H : Hp} {Q : VK} {ds : List PyData} {xs : List V} {p : Addr} (dm : ∀ a, F a → H a ≠ none) (g : Give K F H Q (.new (.lst ds))) (hp : H p = none) (r : RpA K F H xs ds) : Q (.ref p) (upd H p (.lst xs)) := by
  have px : PEx F H F (upd H p (.lst xs)) := PEx.neu dm hp
  exact g p _ hp px ⟨xs, upd_same, r.up (px.fr dm)⟩
end
end Px
namespace Px
open PySem PySem.Spec PyProof.Rows L2

section
variable {X : Cx} {ct : Gx} {W : WX}
theorem op_or {f : Value → Value → Sem Value} {r r' : R2} (h : OpR X f r) (h' : OpR X f r') : OpR X f (fun x y H Q => r x y H Q ∨ r' x y H Q) := fun pins s σ H x y v u Q I rx ry q => q.elim (h pins s σ H x y v u Q I rx ry) (h' pins s σ H x y v u Q I rx ry)
/-- list + list, whatever they are -/
theorem op_catL : OpR X (binaryOp .Add) (fun x y H Q => ∃ l b xs zs, x = .ref l ∧ y = .ref b ∧ SqL X.K H l xs ∧ SqL X.K H b zs ∧ xs.length + zs.length ≤ sizeLine ∧ ∀ p, H p = none → Q (.ref p) (upd H p (.lst (xs ++ zs)))) := by
  intro pins s σ H x y v u Q I rx ry h
  obtain ⟨l, b, xs, zs, rfl, rfl, hH, hB, hz, q⟩ := h
  cases rx
  cases ry
  obtain ⟨its, r, ⟨⟨cls, dd, data, sl⟩, n, ho, hc, hdn, hd⟩, _⟩ := I.list hH
  obtain ⟨its2, r2, ⟨⟨cls2, dd2, data2, sl2⟩, n2, ho2, hc2, hdn2, hd2⟩, _⟩ := I.list hB
  simp only at hc hd hc2 hd2 hdn hdn2
  subst hc hd hc2 hd2 hdn hdn2
  have h1 := r.length
  have h2 := r2.length
  have joined : (its ++ its2).toArray = its.toArray ++ its2.toArray := by simp
  refine concat_meets ⟨_, ho, rfl⟩ ⟨_, ho2, rfl⟩ noFill_list_add seq_list_add PySem.F.slot_list_add PySem.F.entry_list_add (PySem.F.args_list_add_2 _ _) (list_addW l b its.toArray its2.toArray n n2 _ _ sl sl2 (by simp; omega)) ⟨ho, ho2, ?_⟩
  rw [← joined]
  have long : (xs ++ zs).length ≤ sizeLine := by
    rw [List.length_append]
    exact hz
  exact ⟨.ref s.heap.objs.size, _, I.lnew (t' := s.toks) (r.append r2) long, rfl, q _ I.fresh⟩

theorem strOk_iff {x : Str} : PyData.strOk x = true ↔ ∀ c ∈ x.cps.toList, c < 0x110000 := by
  unfold PyData.strOk
  rw [Array.all_eq_true_iff_forall_mem]
  simp
theorem strOk_app {a b : Str} (h1 : PyData.strOk a = true) (h2 : PyData.strOk b = true) : PyData.strOk (a ++ b) = true := by
  rw [strOk_iff] at *
  intro c hc
  have e : (a ++ b).cps.toList = a.cps.toList ++ b.cps.toList := by
    show (a.cps ++ b.cps).toList = _
    simp
  rw [e] at hc
  rcases List.mem_append.mp hc with hc | hc
  · exact h1 c hc
  · exact h2 c hc
/-! ### arithmetic -/
def addD : PyData → PyData → Option OR
  | .int i, .int j => some (.val (.int (i + j)))
  | .str a, .str b => if a.length + b.length ≤ Lim then some (.val (.str (a ++ b))) else none
  | .list a, .list b => if a.length + b.length ≤ Lim then some (.new (.lst (a ++ b))) else none
  | .tuple a, .tuple b => if a.length + b.length ≤ Lim then some (.val (.tuple (a ++ b))) else none
  | _, _ => none
theorem some_val {o : OR} {d : OR} (h : some d = some o) : d = o := Option.some.inj h
theorem se_add {a b : Expr} {f g : FE} {pos} (h1 : SE X ct W a f) (h2 : SE X ct W b g) : SE X ct W (.BinOp a .Add b pos) (u2 addD f g) := by
  refine se_u2 (fun ta tb ha hb => pe_op (op_or op_add (op_or op_add_str (op_or op_catL op_catA))) ha hb) h1 h2 fun F H x y d1 d2 o Q dm b1 b2 e gv => ?_
  unfold addD at e
  split at e
  · cases e
    cases b1.int_
    cases b2.int_
    exact .inl ⟨_, _, rfl, rfl, gv.here dm (.int _)⟩
  · rename_i a b
    split at e
    · rename_i hl
      cases e
      have k1 := b1.ok_
      have k2 := b2.ok_
      cases b1.str_
      cases b2.str_
      exact .inr (.inl ⟨_, _, rfl, rfl, Nat.le_trans hl lim_line, gv.here dm (.str _ (strOk_app k1 k2))⟩)
    · cases e
  · rename_i a b
    split at e
    · rename_i hl
      cases e
      obtain ⟨p1, v1, rfl, s1, r1⟩ := b1.list_
      obtain ⟨p2, v2, rfl, s2, r2⟩ := b2.list_
      exact .inr (.inr (.inl ⟨_, _, _, _, rfl, rfl, s1, s2, by rw [r1.length, r2.length]; exact Nat.le_trans hl lim_line, fun p hp => gv.lst dm hp (r1.append r2)⟩))
    · cases e
  · rename_i a b
    split at e
    · rename_i hl
      cases e
      cases b1 with
      | rp t1 =>
      cases b2 with
      | rp t2 =>
      cases t1 with
      | tup f1 r1 =>
      cases t2 with
      | tup f2 r2 =>
      refine .inr (.inr (.inr ⟨_, _, _, _, rfl, rfl, f1.sq, f2.sq, by rw [r1.length, r2.length]; exact Nat.le_trans hl lim_line, fun h0 => ?_, fun h0 h1 => ?_, fun h0 h1 p hp => gv.tup dm hp (r1.append r2)⟩))
      · subst h0
        cases r1
        exact gv.here dm (.tup f2 r2)
      · subst h1
        cases r2
        rw [List.append_nil] at gv
        exact gv.here dm (.tup f1 r1)
    · cases e
  · cases e
def int2 (C : Int → Int → Prop) [∀ i j, Decidable (C i j)] (g : Int → Int → Int) : PyData → PyData → Option OR
  | .int i, .int j => if C i j then some (.val (.int (g i j))) else none
  | _, _ => none
theorem se_int2 {a b : Expr} {f h : FE} {pos} {op : Operator} {C D : Int → Int → Prop} [∀ i j, Decidable (C i j)] {g : Int → Int → Int} (hop : OpR X (binaryOp op) (rI D fun i j => .int (g i j))) (cd : ∀ i j, C i j → D i j)
    (h1 : SE X ct W a f) (h2 : SE X ct W b h) : SE X ct W (.BinOp a op b pos) (u2 (int2 C g) f h) := by
  refine se_u2 (fun ta tb ha hb => pe_op hop ha hb) h1 h2 fun F H x y d1 d2 o Q dm b1 b2 e gv => ?_
  unfold int2 at e
  split at e
  · split at e
    · rename_i hl
      cases e
      cases b1.int_
      cases b2.int_
      exact ⟨_, _, rfl, rfl, cd _ _ hl, gv.here dm (.int _)⟩
    · cases e
  · cases e
abbrev CTrue : Int → Int → Prop := fun _ _ => True
abbrev subD := int2 CTrue (fun i j => i - j)
theorem op_sub' : OpR X (binaryOp .Sub) (rI CTrue fun i j => .int (i - j)) := fun pins s σ H x y v u Q I rx ry ⟨i, j, h1, h2, _, q⟩ => op_sub pins s σ H x y v u Q I rx ry ⟨i, j, h1, h2, q⟩
theorem se_sub {a b : Expr} {f h : FE} {pos} (h1 : SE X ct W a f) (h2 : SE X ct W b h) : SE X ct W (.BinOp a .Sub b pos) (u2 subD f h) := se_int2 op_sub' (fun _ _ h => h) h1 h2
abbrev CMul' : Int → Int → Prop := fun i j => (-(2 ^ 64) < i ∧ i < 2 ^ 64) ∨ (-(2 ^ 64) < j ∧ j < 2 ^ 64)
abbrev mulD := int2 CMul' (fun i j => i * j)
theorem se_mul {a b : Expr} {f h : FE} {pos} (h1 : SE X ct W a f) (h2 : SE X ct W b h) : SE X ct W (.BinOp a .Mult b pos) (u2 mulD f h) := se_int2 op_mul (fun _ _ h => h) h1 h2
abbrev CDiv' : Int → Int → Prop := fun _ j => 0 < j ∧ j < 1073741824
abbrev fdivD := int2 CDiv' (fun i j => i / j)
theorem se_fdiv {a b : Expr} {f h : FE} {pos} (h1 : SE X ct W a f) (h2 : SE X ct W b h) : SE X ct W (.BinOp a .FloorDiv b pos) (u2 fdivD f h) := se_int2 op_fdiv (fun _ _ h => h) h1 h2
abbrev CPos : Int → Int → Prop := fun _ j => 0 < j
abbrev modD := int2 CPos (fun i j => i % j)
theorem se_mod {a b : Expr} {f h : FE} {pos} (h1 : SE X ct W a f) (h2 : SE X ct W b h) : SE X ct W (.BinOp a .Mod b pos) (u2 modD f h) := se_int2 op_mod (fun _ _ h => h) h1 h2
abbrev CPow' : Int → Int → Prop := fun i j => 0 ≤ j ∧ j ≤ 1000000 ∧ i.natAbs < 2 ^ 64
abbrev powD := int2 CPow' (fun i j => i ^ j.toNat)
theorem se_pow {a b : Expr} {f h : FE} {pos} (h1 : SE X ct W a f) (h2 : SE X ct W b h) : SE X ct W (.BinOp a .Pow b pos) (u2 powD f h) := se_int2 op_pow (fun _ _ h => h) h1 h2
def negD : PyData → Option OR
  | .int i => some (.val (.int (-i)))
  | _ => none
theorem se_neg {a : Expr} {f : FE} {pos} (h1 : SE X ct W a f) : SE X ct W (.UnaryOp .USub a pos) (u1 negD f) := by
  refine se_u1 (fun ta ha => pe_un un_neg ha) h1 fun F H x d o Q dm b e gv => ?_
  unfold negD at e
  split at e
  · cases e
    cases b.int_
    exact ⟨_, rfl, gv.here dm (.int _)⟩
  · cases e

/-! ### comparisons -/
mutual
/-- no dict within -/
def nodict : PyData → Bool
  | .dict _ => false
  | .list xs => nodictA xs
  | .tuple xs => nodictA xs
  | _ => true
def nodictA : List PyData → Bool
  | [] => true
  | d :: ds => nodict d && nodictA ds
end
theorem Rp.dp {K : PySem.W.Frag} {F : Addr → Prop} {H : Hp} : ∀ (d : PyData) (v : V), nodict d = true → Rp K F H v d → Dp K H v d
  | .none, _, _, h => by cases h; exact .non
  | .bool b, _, _, h => by cases h; exact .bl b
  | .int i, _, _, h => by cases h; exact .int i
  | .str x, _, _, h => by cases h; exact .str x
  | .list ds, _, n, h => by
    cases h with
    | lst f r =>
      have n' : nodictA ds = true := n
      exact .lst f.sq (go ds _ n' r)
  | .tuple ds, _, n, h => by
    cases h with
    | tup f r =>
      have n' : nodictA ds = true := n
      exact .tup f.sq (go ds _ n' r)
  | .dict ds, _, n, h => by cases n
where
  go {K : PySem.W.Frag} {F : Addr → Prop} {H : Hp} : ∀ (ds : List PyData) (vs : List V), nodictA ds = true → RpA K F H vs ds → DpAll K H vs ds
  | [], _, _, h => by cases h; exact .nil
  | d :: ds, _, n, h => by
    have n' : (nodict d && nodictA ds) = true := n
    rw [Bool.and_eq_true] at n'
    cases h with
    | cons a b => exact .cons (Rp.dp d _ n'.1 a) (go ds _ n'.2 b)
theorem RpA.dp {K : PySem.W.Frag} {F : Addr → Prop} {H : Hp} {ds : List PyData} {vs : List V} (n : nodictA ds = true) (r : RpA K F H vs ds) : DpAll K H vs ds := Rp.dp.go ds vs n r
theorem Bp.dp {K : PySem.W.Frag} {F : Addr → Prop} {H : Hp} {d : PyData} {v : V} (n : nodict d = true) (h : Bp K F H v d) : Dp K H v d := by
  cases h with
  | rp h => exact Rp.dp d v n h
  | lst h r =>
    have n' : nodictA _ = true := n
    exact .lst (.of h) (r.dp n')
  | dic h r => cases n
mutual
theorem Rp.lay {K : PySem.W.Frag} {F : Addr → Prop} {H : Hp} : ∀ (d : PyData) (v : V), nodict d = true → Rp K F H v d → d.canLay0 = true
  | .none, _, _, _ => by simp [PyData.canLay0]
  | .bool b, _, _, _ => by simp [PyData.canLay0]
  | .int i, _, _, _ => by simp [PyData.canLay0]
  | .str x, _, _, h => by
    cases h with
    | str _ k => simpa [PyData.canLay0] using k
  | .list ds, _, n, h => by
    cases h with
    | lst f r =>
      have n' : nodictA ds = true := n
      simpa [PyData.canLay0] using RpA.lay ds _ n' r
  | .tuple ds, _, n, h => by
    cases h with
    | tup f r =>
      have n' : nodictA ds = true := n
      simpa [PyData.canLay0] using RpA.lay ds _ n' r
  | .dict ds, _, n, h => by cases n
theorem RpA.lay {K : PySem.W.Frag} {F : Addr → Prop} {H : Hp} : ∀ (ds : List PyData) (vs : List V), nodictA ds = true → RpA K F H vs ds → PyData.canLayAll0 ds = true
  | [], _, _, h => by simp [PyData.canLayAll0]
  | d :: ds, _, n, h => by
    have n' : (nodict d && nodictA ds) = true := n
    rw [Bool.and_eq_true] at n'
    cases h with
    | cons a b => simp [PyData.canLayAll0, Rp.lay d _ n'.1 a, RpA.lay ds _ n'.2 b]
end
theorem Bp.lay {K : PySem.W.Frag} {F : Addr → Prop} {H : Hp} {d : PyData} {v : V} (n : nodict d = true) (h : Bp K F H v d) : d.canLay0 = true := by
  cases h with
  | rp h => exact Rp.lay d v n h
  | lst h r =>
    have n' : nodictA _ = true := n
    simpa [PyData.canLay0] using RpA.lay _ _ n' r
  | dic h r => cases n
/-- == of data: none of it a dict, nested at most 64 -/
def okEq (d : PyData) : Bool := decide (d.depth ≤ 64) && nodict d
def eqD : PyData → PyData → Option Bool
  | .str a, .str b => some (decide (a = b))
  | a, b => if (okEq a && okEq b) = true then some (PyData.eqv a b) else none
theorem Bp.shaped {K : PySem.W.Frag} {F : Addr → Prop} {H : Hp} {d : PyData} {v : V} (n : okEq d = true) (h : Bp K F H v d) : SeqAt.shaped d = true ∧ nodict d = true := by
  unfold okEq at n
  rw [Bool.and_eq_true] at n
  refine ⟨?_, n.2⟩
  unfold SeqAt.shaped
  rw [h.lay n.2, n.1]
  rfl
theorem eq_ask {K : PySem.W.Frag} {F : Addr → Prop} {H : Hp} {x y : V} {d1 d2 : PyData} {b : Bool} (b1 : Bp K F H x d1) (b2 : Bp K F H y d2) (e : eqD d1 d2 = some b) :
    (scal x y = true ∧ decide (x = y) = b) ∨ ∃ d e, Dp K H x d ∧ Dp K H y e ∧ SeqAt.shaped d = true ∧ SeqAt.shaped e = true ∧ PyData.eqv d e = b := by
  unfold eqD at e
  split at e
  · cases e
    cases b1.str_
    cases b2.str_
    refine .inl ⟨rfl, ?_⟩
    rename_i a c
    by_cases h : a = c
    · subst h; simp
    · have h' : ¬ V.str a = V.str c := fun z => h (V.str.inj z)
      rw [decide_eq_false h, decide_eq_false h']
  · split at e
    · rename_i h
      cases e
      rw [Bool.and_eq_true] at h
      obtain ⟨s1, n1⟩ := b1.shaped h.1
      obtain ⟨s2, n2⟩ := b2.shaped h.2
      exact .inr ⟨_, _, b1.dp n1, b2.dp n2, s1, s2, rfl⟩
    · cases e
def asB (f : PyData → PyData → Option Bool) : PyData → PyData → Option OR := fun a b => (f a b).map fun c => .val (.bool c)
def neD : PyData → PyData → Option Bool := fun a b => (eqD a b).map (!·)
/-- what a comparison's sign asks of data -/
def RelD (X : Cx) (op : CmpOp) (g : PyData → PyData → Option Bool) : Prop := ∃ r : R2, OpR X (compareOp op) r ∧ ∀ F H x y d1 d2 b Q, Bp X.K F H x d1 → Bp X.K F H y d2 → g d1 d2 = some b → Q (.bl b) H → r x y H Q
theorem rel_eq (hu : X.A.units + 64 < cLine) : RelD X .Eq eqD := ⟨_, op_or op_eq (op_eqD hu), fun F H x y d1 d2 b Q b1 b2 e q => by
  rcases eq_ask b1 b2 e with ⟨h1, h2⟩ | ⟨d, e, h1, h2, h3, h4, h5⟩
  · exact .inl ⟨h1, by rw [h2]; exact q⟩
  · exact .inr ⟨d, e, h1, h2, h3, h4, by rw [h5]; exact q⟩⟩
theorem rel_ne (hu : X.A.units + 64 < cLine) : RelD X .NotEq neD := ⟨_, op_or op_ne (op_neD hu), fun F H x y d1 d2 b Q b1 b2 e q => by
  unfold neD at e
  cases h : eqD d1 d2 with
  | none => rw [h] at e; cases e
  | some c =>
    rw [h] at e
    cases e
    rcases eq_ask b1 b2 h with ⟨h1, h2⟩ | ⟨d, e, h1, h2, h3, h4, h5⟩
    · exact .inl ⟨h1, by rw [h2]; exact q⟩
    · exact .inr ⟨d, e, h1, h2, h3, h4, by rw [h5]; exact q⟩⟩
def cmpI (g : Int → Int → Bool) : PyData → PyData → Option Bool
  | .int i, .int j => some (g i j)
  | _, _ => none
theorem rel_int {op : CmpOp} {g : Int → Int → Bool} (h : OpR X (compareOp op) (rI0 fun i j => .bl (g i j))) : RelD X op (cmpI g) := ⟨_, h, fun F H x y d1 d2 b Q b1 b2 e q => by
  unfold cmpI at e
  split at e
  · cases e
    cases b1.int_
    cases b2.int_
    exact ⟨_, _, rfl, rfl, q⟩
  · cases e⟩
abbrev ltD := cmpI fun i j => decide (i < j)
abbrev leD := cmpI fun i j => decide (i ≤ j)
abbrev gtD := cmpI fun i j => decide (j < i)
abbrev geD := cmpI fun i j => decide (j ≤ i)
theorem rel_lt : RelD X .Lt ltD := rel_int op_lt
theorem rel_le : RelD X .LtE leD := rel_int op_le
theorem rel_gt : RelD X .Gt gtD := rel_int op_gt
theorem rel_ge : RelD X .GtE geD := rel_int op_ge
theorem se_cmp {a b : Expr} {op : CmpOp} {f g : FE} {pos} {c : PyData → PyData → Option Bool} (r : RelD X op c) (h1 : SE X ct W a f) (h2 : SE X ct W b g) (hm : behindInMarks op b = false) : SE X ct W (.Compare a [op] [b] pos) (u2 (asB c) f g) := by
  obtain ⟨r, hop, hr⟩ := r
  refine se_u2 (fun ta tb ha hb => pe_cmpR hop ha hb hm) h1 h2 fun F H x y d1 d2 o Q dm b1 b2 e gv => ?_
  unfold asB at e
  cases h : c d1 d2 with
  | none => rw [h] at e; cases e
  | some k =>
    rw [h] at e
    cases e
    exact hr F H x y d1 d2 k Q b1 b2 h (gv.here dm (.bl k))
/-! ### tests -/
def tst (f : FE) : FT := fun sl st => match f sl st with
  | .fail => .fail
  | .exc x st1 => .exc x st1
  | .ok (.val (.bool b)) st1 => .ok b st1
  | .ok _ _ => .fail
theorem st_of {e : Expr} {f : FE} (rule : ∀ t, PE X e t → PT X e (fun σ H Q => t σ H fun x H1 => ∃ c, x = .bl c ∧ Q c H1)) (h : SE X ct W e f) : ST X ct W e (tst f) := by
  intro B hB hc sl st
  refine pt_imp (rule _ (h B hB hc sl st)) fun σ H Q ⟨ω, s, q⟩ => ⟨ω, s, ?_⟩
  unfold tst at q
  cases hf : f sl st with
  | fail => rw [hf] at q; exact q
  | exc x st1 => rw [hf] at q; exact q
  | ok ev st1 =>
    rw [hf] at q
    intro v ω' H' x s' hv
    cases ev with
    | bor n => exact q.elim
    | new o => exact q.elim
    | val d =>
      cases d with
      | bool b =>
        have hv' : Rp B.K ω'.F H' v (.bool b) := hv
        cases hv'
        exact ⟨b, rfl, q ω' H' x s'⟩
      | none => exact q.elim
      | int _ => exact q.elim
      | str _ => exact q.elim
      | list _ => exact q.elim
      | tuple _ => exact q.elim
      | dict _ => exact q.elim
/-- a name, a call: by its value, a bool -/
theorem st_val {e : Expr} {f : FE} (h : SE X ct W e f) (he : ∀ whole, isTrue e X.env whole = (do let v ← whole; standAt e.pos; holding [v] (truthy v)) := by intro _; rfl) : ST X ct W e (tst f) :=
  st_of (fun t ht => pt_val ht he) h
/-- two in a row, for tests of a comparison -/
def t2 (c : PyData → PyData → Option Bool) (f1 f2 : FE) : FT := fun sl st => match f1 sl st with
  | .fail => .fail
  | .exc x st1 => .exc x st1
  | .ok ev1 st1 => match f2 sl st1 with
    | .fail => .fail
    | .exc x st2 => .exc x st2
    | .ok ev2 st2 => match ev1.dat st2, ev2.dat st2 with
      | some d1, some d2 => match c d1 d2 with
        | none => .fail
        | some r => .ok r st2
      | _, _ => .fail
theorem st_cmp {a b : Expr} {op : CmpOp} {f1 f2 : FE} {pos} {c : PyData → PyData → Option Bool} (r : RelD X op c) (ha : SE X ct W a f1) (hb : SE X ct W b f2) (hm : behindInMarks op b = false) : ST X ct W (.Compare a [op] [b] pos) (t2 c f1 f2) := by
  obtain ⟨r, hop, hr⟩ := r
  intro B hB hc sl st
  cases hf : f1 sl st with
  | fail =>
    refine pt_imp (pt_cmpR hop (ha B hB hc sl st) (hb B hB hc sl st) hm) fun σ H Q ⟨ω, s, q⟩ => ?_
    unfold t2 at q
    rw [hf] at q
    exact q.elim
  | exc x st1 =>
    refine pt_imp (pt_cmpR hop (ha B hB hc sl st) (hb B hB hc sl st) hm) fun σ H Q ⟨ω, s, q⟩ => ⟨ω, s, ?_⟩
    unfold t2 at q
    rw [hf] at q ⊢
    exact q
  | ok ev1 st1 =>
    refine pt_imp (pt_cmpR hop (ha B hB hc sl st) (hb B hB hc sl st1) hm) fun σ H Q ⟨ω, s, q⟩ => ⟨ω, s, ?_⟩
    unfold t2 at q
    rw [hf] at q ⊢
    dsimp only at q
    intro v ω1 H1 x1 s1 hv
    obtain ⟨ω2, x2, s2, hv2⟩ := VR.soft s1 hv
    refine ⟨ω2, s2, ?_⟩
    have x12 := x1.trans x2
    cases hf2 : f2 sl st1 with
    | fail => rw [hf2] at q; exact q
    | exc x st2 => rw [hf2] at q; exact OutT.up q x12
    | ok ev2 st2 =>
      rw [hf2] at q
      dsimp only at q
      intro u ω3 H3 x3 s3 hu
      have hv3 := VR.up x3 hv2
      cases hd1 : ev1.dat st2 with
      | none => rw [hd1] at q; exact q.elim
      | some d1 =>
        cases hd2 : ev2.dat st2 with
        | none => rw [hd1, hd2] at q; exact q.elim
        | some d2 =>
          rw [hd1, hd2] at q
          dsimp only at q
          cases hg : c d1 d2 with
          | none => rw [hg] at q; exact q.elim
          | some o =>
            rw [hg] at q
            have b1 := VR.bp s3 hv3 (by rw [EV.soft_dat]; exact hd1)
            have b2 := VR.bp s3 hu hd2
            rw [hB] at b1 b2
            exact hr ω3.F H3 v u d1 d2 o _ b1 b2 hg ⟨o, rfl, q ω3 H3 (x12.trans x3) s3⟩
/-! ### and, or, not -/
def tNotF (f : FT) : FT := fun sl st => match f sl st with
  | .ok b st1 => .ok (!b) st1
  | .exc x st1 => .exc x st1
  | .fail => .fail
theorem st_not {a : Expr} {f : FT} {pos} (h : ST X ct W a f) : ST X ct W (.UnaryOp .Not a pos) (tNotF f) := by
  intro B hB hc sl st
  refine pt_imp (pt_not (h B hB hc sl st)) fun σ H Q ⟨ω, s, q⟩ => ⟨ω, s, ?_⟩
  unfold tNotF at q
  cases hf : f sl st with
  | fail => rw [hf] at q; exact q
  | exc x st1 => rw [hf] at q; exact q
  | ok b st1 => rw [hf] at q; exact fun ω' H' x s' => q ω' H' x s'
def tAndF (f g : FT) : FT := fun sl st => match f sl st with
  | .ok true st1 => g sl st1
  | .ok false st1 => .ok false st1
  | .exc x st1 => .exc x st1
  | .fail => .fail
def tOrF (f g : FT) : FT := fun sl st => match f sl st with
  | .ok false st1 => g sl st1
  | .ok true st1 => .ok true st1
  | .exc x st1 => .exc x st1
  | .fail => .fail
theorem sw_and1 {a : Expr} {f : FT} {pos} (h : ST X ct W a f) : SW X ct W (.BoolOp .And [a] pos) f := fun B hB hc sl st => pw_and1 (h B hB hc sl st)
theorem sw_or1 {a : Expr} {f : FT} {pos} (h : ST X ct W a f) : SW X ct W (.BoolOp .Or [a] pos) f := fun B hB hc sl st => pw_or1 (h B hB hc sl st)
theorem sw_and {a b : Expr} {rest : List Expr} {f g : FT} {pos} (h1 : ST X ct W a f) (h2 : SW X ct W (.BoolOp .And (b :: rest) pos) g) : SW X ct W (.BoolOp .And (a :: b :: rest) pos) (tAndF f g) := by
  intro B hB hc sl st
  cases hf : f sl st with
  | fail =>
    refine pw_imp (pw_and (h1 B hB hc sl st) (h2 B hB hc sl st)) fun σ H Q ⟨ω, s, q⟩ => ?_
    unfold tAndF at q
    rw [hf] at q
    exact q.elim
  | exc x st1 =>
    refine pw_imp (pw_and (h1 B hB hc sl st) (h2 B hB hc sl st)) fun σ H Q ⟨ω, s, q⟩ => ⟨ω, s, ?_⟩
    unfold tAndF at q
    rw [hf] at q ⊢
    exact q
  | ok c st1 =>
    refine pw_imp (pw_and (h1 B hB hc sl st) (h2 B hB hc sl st1)) fun σ H Q ⟨ω, s, q⟩ => ⟨ω, s, ?_⟩
    unfold tAndF at q
    rw [hf] at q ⊢
    intro ω' H' x s'
    cases c with
    | true => rw [if_pos rfl]; exact ⟨ω', s', OutT.up q x⟩
    | false => rw [if_neg Bool.false_ne_true]; exact q ω' H' x s'
theorem sw_or {a b : Expr} {rest : List Expr} {f g : FT} {pos} (h1 : ST X ct W a f) (h2 : SW X ct W (.BoolOp .Or (b :: rest) pos) g) : SW X ct W (.BoolOp .Or (a :: b :: rest) pos) (tOrF f g) := by
  intro B hB hc sl st
  cases hf : f sl st with
  | fail =>
    refine pw_imp (pw_or (h1 B hB hc sl st) (h2 B hB hc sl st)) fun σ H Q ⟨ω, s, q⟩ => ?_
    unfold tOrF at q
    rw [hf] at q
    exact q.elim
  | exc x st1 =>
    refine pw_imp (pw_or (h1 B hB hc sl st) (h2 B hB hc sl st)) fun σ H Q ⟨ω, s, q⟩ => ⟨ω, s, ?_⟩
    unfold tOrF at q
    rw [hf] at q ⊢
    exact q
  | ok c st1 =>
    refine pw_imp (pw_or (h1 B hB hc sl st) (h2 B hB hc sl st1)) fun σ H Q ⟨ω, s, q⟩ => ⟨ω, s, ?_⟩
    unfold tOrF at q
    rw [hf] at q ⊢
    intro ω' H' x s'
    cases c with
    | true => rw [if_pos rfl]; exact q ω' H' x s'
    | false => rw [if_neg Bool.false_ne_true]; exact ⟨ω', s', OutT.up q x⟩
theorem st_w {e : Expr} {f : FT} (h : SW X ct W e f) : ST X ct W e f := fun B hB hc sl st => (h B hB hc sl st).pt
/-- a test's outcome as a value: and, or of bools -/
def eOfT (f : FT) : FE := fun sl st => match f sl st with
  | .ok b st1 => .ok (.val (.bool b)) st1
  | .exc x st1 => .exc x st1
  | .fail => .fail
/-- what gives a bool -/
def bolE (f : FE) : FT := tst f
def eAnd (f g : FE) : FE := fun sl st => match f sl st with
  | .ok (.val (.bool true)) st1 => g sl st1
  | .ok (.val (.bool false)) st1 => .ok (.val (.bool false)) st1
  | .exc x st1 => .exc x st1
  | _ => .fail
def eOr (f g : FE) : FE := fun sl st => match f sl st with
  | .ok (.val (.bool false)) st1 => g sl st1
  | .ok (.val (.bool true)) st1 => .ok (.val (.bool true)) st1
  | .exc x st1 => .exc x st1
  | _ => .fail
def eNot (f : FE) : FE := fun sl st => match f sl st with
  | .ok (.val (.bool b)) st1 => .ok (.val (.bool (!b))) st1
  | .exc x st1 => .exc x st1
  | _ => .fail
theorem se_one {op} {a : Expr} {f : FE} {pos} (h : SE X ct W a f) : SE X ct W (.BoolOp op [a] pos) f := fun B hB hc sl st => pe_one (h B hB hc sl st)
theorem se_and {a b : Expr} {rest : List Expr} {f g : FE} {pos} (h1 : SE X ct W a f) (h2 : SE X ct W (.BoolOp .And (b :: rest) pos) g) : SE X ct W (.BoolOp .And (a :: b :: rest) pos) (eAnd f g) := by
  intro B hB hc sl st
  cases hf : f sl st with
  | fail =>
    refine pe_imp (pe_and (h1 B hB hc sl st) (h2 B hB hc sl st)) fun σ H Q ⟨ω, s, q⟩ => ?_
    unfold eAnd at q
    rw [hf] at q
    exact q.elim
  | exc x st1 =>
    refine pe_imp (pe_and (h1 B hB hc sl st) (h2 B hB hc sl st)) fun σ H Q ⟨ω, s, q⟩ => ⟨ω, s, ?_⟩
    unfold eAnd at q
    rw [hf] at q ⊢
    exact q
  | ok c st1 =>
    refine pe_imp (pe_and (h1 B hB hc sl st) (h2 B hB hc sl st1)) fun σ H Q ⟨ω, s, q⟩ => ⟨ω, s, ?_⟩
    unfold eAnd at q
    rw [hf] at q ⊢
    intro v ω' H' x s' hv
    cases c with
    | bor n => exact q.elim
    | new o => exact q.elim
    | val d =>
      cases d with
      | bool b =>
        have hv' : Rp B.K ω'.F H' v (.bool b) := hv
        cases hv'
        refine ⟨b, rfl, ?_⟩
        cases b with
        | true => rw [if_pos rfl]; exact ⟨ω', s', OutE.up q x⟩
        | false => rw [if_neg Bool.false_ne_true]; exact q _ ω' H' x s' hv
      | none => exact q.elim
      | int _ => exact q.elim
      | str _ => exact q.elim
      | list _ => exact q.elim
      | tuple _ => exact q.elim
      | dict _ => exact q.elim
theorem se_or {a b : Expr} {rest : List Expr} {f g : FE} {pos} (h1 : SE X ct W a f) (h2 : SE X ct W (.BoolOp .Or (b :: rest) pos) g) : SE X ct W (.BoolOp .Or (a :: b :: rest) pos) (eOr f g) := by
  intro B hB hc sl st
  cases hf : f sl st with
  | fail =>
    refine pe_imp (pe_or (h1 B hB hc sl st) (h2 B hB hc sl st)) fun σ H Q ⟨ω, s, q⟩ => ?_
    unfold eOr at q
    rw [hf] at q
    exact q.elim
  | exc x st1 =>
    refine pe_imp (pe_or (h1 B hB hc sl st) (h2 B hB hc sl st)) fun σ H Q ⟨ω, s, q⟩ => ⟨ω, s, ?_⟩
    unfold eOr at q
    rw [hf] at q ⊢
    exact q
  | ok c st1 =>
    refine pe_imp (pe_or (h1 B hB hc sl st) (h2 B hB hc sl st1)) fun σ H Q ⟨ω, s, q⟩ => ⟨ω, s, ?_⟩
    unfold eOr at q
    rw [hf] at q ⊢
    intro v ω' H' x s' hv
    cases c with
    | bor n => exact q.elim
    | new o => exact q.elim
    | val d =>
      cases d with
      | bool b =>
        have hv' : Rp B.K ω'.F H' v (.bool b) := hv
        cases hv'
        refine ⟨b, rfl, ?_⟩
        cases b with
        | true => rw [if_pos rfl]; exact q _ ω' H' x s' hv
        | false => rw [if_neg Bool.false_ne_true]; exact ⟨ω', s', OutE.up q x⟩
      | none => exact q.elim
      | int _ => exact q.elim
      | str _ => exact q.elim
      | list _ => exact q.elim
      | tuple _ => exact q.elim
      | dict _ => exact q.elim
theorem se_not {a : Expr} {f : FE} {pos} (h : SE X ct W a f) : SE X ct W (.UnaryOp .Not a pos) (eNot f) := by
  intro B hB hc sl st
  refine pe_imp (pe_not (h B hB hc sl st)) fun σ H Q ⟨ω, s, q⟩ => ⟨ω, s, ?_⟩
  unfold eNot at q
  cases hf : f sl st with
  | fail => rw [hf] at q; exact q
  | exc x st1 => rw [hf] at q; exact q
  | ok c st1 =>
    rw [hf] at q
    intro v ω' H' x s' hv
    cases c with
    | bor n => exact q.elim
    | new o => exact q.elim
    | val d =>
      cases d with
      | bool b =>
        have hv' : Rp B.K ω'.F H' v (.bool b) := hv
        cases hv'
        exact ⟨b, rfl, q _ ω' H' x s' (.bl _)⟩
      | none => exact q.elim
      | int _ => exact q.elim
      | str _ => exact q.elim
      | list _ => exact q.elim
      | tuple _ => exact q.elim
      | dict _ => exact q.elim
def eIf (t : FT) (f g : FE) : FE := fun sl st => match t sl st with
  | .ok true st1 => f sl st1
  | .ok false st1 => g sl st1
  | .exc x st1 => .exc x st1
  | .fail => .fail
theorem se_if {c a b : Expr} {t : FT} {f g : FE} {pos} (h : ST X ct W c t) (h1 : SE X ct W a f) (h2 : SE X ct W b g) : SE X ct W (.IfExp c a b pos) (eIf t f g) := by
  intro B hB hc sl st
  cases hf : t sl st with
  | fail =>
    refine pe_imp (pe_ifExp (h B hB hc sl st) (h1 B hB hc sl st) (h2 B hB hc sl st)) fun σ H Q ⟨ω, s, q⟩ => ?_
    unfold eIf at q
    rw [hf] at q
    exact q.elim
  | exc x st1 =>
    refine pe_imp (pe_ifExp (h B hB hc sl st) (h1 B hB hc sl st) (h2 B hB hc sl st)) fun σ H Q ⟨ω, s, q⟩ => ⟨ω, s, ?_⟩
    unfold eIf at q
    rw [hf] at q ⊢
    exact q
  | ok k st1 =>
    refine pe_imp (pe_ifExp (h B hB hc sl st) (h1 B hB hc sl st1) (h2 B hB hc sl st1)) fun σ H Q ⟨ω, s, q⟩ => ⟨ω, s, ?_⟩
    unfold eIf at q
    rw [hf] at q ⊢
    intro ω' H' x s'
    cases k with
    | true => rw [if_pos rfl]; exact ⟨ω', s', OutE.up q x⟩
    | false => rw [if_neg Bool.false_ne_true]; exact ⟨ω', s', OutE.up q x⟩
end
end Px
namespace Px
open PySem PySem.Spec PyProof.Rows L2

section
variable {B : Bs} {ω : Wd} {H : Hp} {σ : L2.St} {sl : Sls} {st : Sto} {v : V} {W : WX}
/-- a slot is told -/
theorem SR.set (s : SR B ω H σ sl st) {i : Nat} {t : Sl} (r : SlR B.K ω.F ω.ad B.ct H (some (some v)) t) : SR B ω H (σ.set i (some v)) (sl.set i t) st where
  len := by rw [List.length_set, List.length_set]; exact s.len
  dom := s.dom
  keep := s.keep
  newF := s.newF
  oldF := s.oldF
  adl := s.adl
  nd := s.nd
  iop := s.iop
  adn := s.adn
  ioc := s.ioc
  ioc2 := s.ioc2
  there := s.there
  prF := s.prF
  prA := s.prA
  prH := s.prH
  slot := fun j u h => by
    by_cases e : i = j
    · subst e
      have hl : i < sl.length := by
        have := (List.getElem?_eq_some_iff.mp h).1
        rw [List.length_set] at this
        exact this
      rw [List.getElem?_set_self hl] at h
      cases h
      rw [List.getElem?_set_self (by rw [s.len]; exact hl)]
      exact r
    · rw [List.getElem?_set_ne e] at h
      rw [List.getElem?_set_ne e]
      exact s.slot j u h
  cell := s.cell
/-- a new thing comes into the store -/
theorem SR.push (s : SR B ω H σ sl st) {p : Addr} {o : MO} (hp : p ∉ ω.ad) (h0 : B.H0 p = none ∧ p ∉ B.pr) (hf : ¬ ω.F p) (m : MOR B.K ω.F H p o) : SR B ⟨ω.F, ω.ad ++ [p]⟩ H σ sl (st ++ [.live o]) ∧ Ext B ω H ⟨ω.F, ω.ad ++ [p]⟩ H := by
  have pre : ω.ad <+: ω.ad ++ [p] := ⟨[p], rfl⟩
  refine ⟨⟨s.len, s.dom, s.keep, s.newF, s.oldF, by rw [List.length_append, List.length_append, s.adl]; rfl, ?_, s.iop.trans pre, fun q hq => ?_, fun n c hn h => ?_, fun n o' h => ?_, fun q hq => ?_, s.prF, fun q hq z => ?_, s.prH, fun i t h => (s.slot i t h).up Fr.refl pre, fun n c q h1 h2 => ?_⟩, ⟨Fr.refl, pre, fun _ _ => rfl⟩⟩
  · refine List.nodup_append.mpr ⟨s.nd, by simp, fun a ha b hb => ?_⟩
    rw [List.mem_singleton.mp hb]
    rintro rfl
    exact hp ha
  · rcases List.mem_append.mp hq with hq | hq
    · exact s.adn q hq
    · rw [List.mem_singleton.mp hq]; exact .inr h0.1
  · have hl : n < st.length := Nat.lt_of_lt_of_le hn (by rw [← s.adl]; exact s.iop.length_le)
    rw [List.getElem?_append_left hl] at h
    exact s.ioc n c hn h
  · by_cases hl : n < st.length
    · rw [List.getElem?_append_left hl] at h
      exact s.ioc2 n o' h
    · rw [List.getElem?_append_right (by omega)] at h
      cases hn : n - st.length with
      | zero => rw [hn] at h; cases h
      | succ m => rw [hn] at h; simp at h
  · rcases List.mem_append.mp hq with hq | hq
    · exact s.there q hq
    · rw [List.mem_singleton.mp hq]; exact m.some
  · rcases List.mem_append.mp z with z | z
    · exact s.prA q hq z
    · rw [List.mem_singleton.mp z] at hq; exact h0.2 hq
  · by_cases hl : n < st.length
    · rw [List.getElem?_append_left hl] at h1
      have hl2 : n < ω.ad.length := by rw [s.adl]; exact hl
      have h2' : (ω.ad ++ [p])[n]? = some q := h2
      rw [List.getElem?_append_left hl2] at h2'
      exact s.cell n c q h1 h2'
    · rw [List.getElem?_append_right (by omega)] at h1
      have h2' : (ω.ad ++ [p])[n]? = some q := h2
      have hl2 : ¬ n < ω.ad.length := by rw [s.adl]; exact hl
      rw [List.getElem?_append_right (by omega), s.adl] at h2'
      cases hn : n - st.length with
      | zero =>
        rw [hn] at h1 h2'
        cases h1
        cases h2'
        exact ⟨hf, m⟩
      | succ m => rw [hn] at h1; simp at h1
end

section
variable {X : Cx} {ct : Gx} {W : WX}
/-! ### small statements -/
def sNext : FS := fun sl st => .nx sl st
def sBreak : FS := fun sl st => .bk sl st
def sCont : FS := fun sl st => .ct sl st
theorem ss_pass {pos} : SS X ct W (.Pass pos) sNext := fun B hB hc sl st => ps_imp ps_pass fun D σ H ⟨ω, s, q⟩ => q σ ω H .refl s
theorem ss_break {pos} : SS X ct W (.Break pos) sBreak := fun B hB hc sl st => ps_imp ps_break fun D σ H ⟨ω, s, q⟩ => q σ ω H .refl s
theorem ss_continue {pos} : SS X ct W (.Continue pos) sCont := fun B hB hc sl st => ps_imp ps_continue fun D σ H ⟨ω, s, q⟩ => q σ ω H .refl s
theorem ss_doc {x j pos pos'} : SS X ct W (.Expr (.Constant (.str x) j pos) pos') sNext := fun B hB hc sl st => ps_imp ps_doc fun D σ H ⟨ω, s, q⟩ => q σ ω H .refl s
def sExpr (f : FE) : FS := fun sl st => match f sl st with
  | .fail => .fail
  | .exc x st1 => .exc x sl st1
  | .ok _ st1 => .nx sl st1
theorem ss_expr {e : Expr} {f : FE} {pos : Pos} (h : SE X ct W e f) (hs : swapsWith e none pos.line X.env = pure false := by rfl) : SS X ct W (.Expr e pos) (sExpr f) := by
  intro B hB hc sl st
  refine ps_imp (ps_expr (h B hB hc sl st) hs) fun D σ H ⟨ω, s, q⟩ => ⟨ω, s, ?_⟩
  unfold sExpr at q
  cases hf : f sl st with
  | fail => rw [hf] at q; exact q
  | exc x st1 => rw [hf] at q; exact fun cls d ω' H' e s' r => q cls d σ ω' H' e s' r
  | ok ev st1 => rw [hf] at q; exact fun v ω' H' e s' _ => q σ ω' H' e s'
def sRet (f : FE) : FS := fun sl st => match f sl st with
  | .fail => .fail
  | .exc x st1 => .exc x sl st1
  | .ok ev st1 => match ev.fix st1 with
    | none => .fail
    | some (d, st2) => .rt d st2
theorem ss_ret {e : Expr} {f : FE} {pos : Pos} (h : SE X ct W e f) : SS X ct W (.Return (some e) pos) (sRet f) := by
  intro B hB hc sl st
  refine ps_imp (ps_ret (h B hB hc sl st)) fun D σ H ⟨ω, s, q⟩ => ⟨ω, s, ?_⟩
  unfold sRet at q
  cases hf : f sl st with
  | fail => rw [hf] at q; exact q
  | exc x st1 => rw [hf] at q; exact fun cls d ω' H' e s' r => q cls d σ ω' H' e s' r
  | ok ev st1 =>
    rw [hf] at q
    dsimp only at q
    intro v ω' H' e s' hv
    cases hx : ev.fix st1 with
    | none => rw [hx] at q; exact q.elim
    | some p =>
      obtain ⟨d, st2⟩ := p
      rw [hx] at q
      obtain ⟨ω2, e2, s2, r2⟩ := VR.fix s' hv hx
      exact q v σ ω2 H' sl (e.trans e2) s2 r2
/-- a new thing handed back -/
def sRetW (f : FE) : FS := fun sl st => match f sl st with
  | .fail => .fail
  | .exc x st1 => .exc x sl st1
  | .ok (.new o) st1 => .rn o st1
  | .ok _ _ => .fail
theorem ss_retW {e : Expr} {f : FE} {pos} (h : SE X ct W e f) : SS X ct W (.Return (some e) pos) (sRetW f) := by
  intro B hB hc sl st
  refine ps_imp (ps_ret (h B hB hc sl st)) fun D σ H ⟨ω, s, q⟩ => ⟨ω, s, ?_⟩
  unfold sRetW at q
  cases hf : f sl st with
  | fail => rw [hf] at q; exact q
  | exc x st1 => rw [hf] at q; exact fun cls d ω' H' e s' r => q cls d σ ω' H' e s' r
  | ok ev st1 =>
    rw [hf] at q
    cases ev with
    | val d => exact q.elim
    | bor n => exact q.elim
    | new o => exact fun v ω' H' x s' hv => q v σ ω' H' sl x s' hv
def sRetN : FS := fun _ st => .rt .none st
theorem ss_retN {pos} : SS X ct W (.Return none pos) sRetN := fun B hB hc sl st => ps_imp ps_retN fun D σ H ⟨ω, s, q⟩ => q .non σ ω H sl .refl s .non

/-! ### names told -/
/-- what a name is told: own: a new thing comes into the store -/
def sTell (own : Bool) (i : Nat) (ev : EV) (sl : Sls) (st : Sto) : RS := match ev with
  | .val d => .nx (sl.set i (.val d)) st
  | .bor n => .nx (sl.set i (.ref n)) st
  | .new o => if own then .nx (sl.set i (.ref st.length)) (st ++ [.live o]) else .nx (sl.set i (.val o.dat)) st
def sSet (own : Bool) (i : Nat) (f : FE) : FS := fun sl st => match f sl st with
  | .fail => .fail
  | .exc x st1 => .exc x sl st1
  | .ok ev st1 => sTell own i ev sl st1
theorem tell_ok {B : Bs} {ω0 ω : Wd} {H0 H : Hp} {σ : L2.St} {sl : Sls} {st : Sto} {v : V} {own : Bool} {i : Nat} {ev : EV} {D : Ends} (e : Ext B ω0 H0 ω H) (s : SR B ω H σ sl st) (h : VR B ω H v ev) (q : OutS B W ω0 H0 (sTell own i ev sl st) D) : D.nx (σ.set i (some v)) H := by
  cases ev with
  | val d => exact q _ ω H e (s.set ⟨v, rfl, h⟩)
  | bor n =>
    obtain ⟨p, h1, rfl⟩ := h
    exact q _ ω H e (s.set ⟨p, h1, rfl⟩)
  | new o =>
    cases own with
    | true =>
      obtain ⟨p, rfl, h1, h2, h3, m⟩ := h
      obtain ⟨s', e'⟩ := s.push h1 h2 h3 m
      refine q _ _ H (e.trans e') (s'.set ⟨p, ?_, rfl⟩)
      rw [← s.adl]
      simp
    | false =>
      obtain ⟨ω', e', s', h'⟩ := VR.soft s h
      exact q _ ω' H (e.trans e') (s'.set ⟨v, rfl, h'⟩)
theorem set_of {B : Bs} {own : Bool} {i : Nat} {f : FE} {te : TE} {s : Stmt} {sl : Sls} {st : Sto} (hs : PS X s (tAsg te (gName i))) (ht : ∀ σ H Q, (∃ ω, SR B ω H σ sl st ∧ OutE B W σ ω H sl (f sl st) Q) → te σ H Q) :
    PS X s (fun D σ H => ∃ ω, SR B ω H σ sl st ∧ OutS B W ω H (sSet own i f sl st) D) := by
  refine ps_imp hs fun D σ H ⟨ω, s, q⟩ => ht σ H _ ⟨ω, s, ?_⟩
  unfold sSet at q
  cases hf : f sl st with
  | fail => rw [hf] at q; exact q
  | exc x st1 => rw [hf] at q; exact fun cls d ω' H' e s' r => q cls d σ ω' H' e s' r
  | ok ev st1 => rw [hf] at q; exact fun v ω' H' e s' hv => tell_ok e s' hv q
theorem ss_set (own : Bool) (i : Nat) {x : Str} {e : Expr} {f : FE} {pos pos' : Pos} (h : SE X ct W e f) (hN : X.N.Nodup) (hi : X.N[i]? = some x := by rfl) (hx : Loc X.env.scope x := by first | exact .inl rfl | exact .inr rfl)
    (hs : swapsWith e (some (.Name x pos')) pos.line X.env = pure false := by rfl) (hf : X.fn x = true ∨ X.env.scope.names.lookup x = some .local := by first | exact .inl rfl | exact .inr rfl) : SS X ct W (.Assign [.Name x pos'] e pos) (sSet own i f) := fun B hB hc sl st =>
  set_of (ps_set hN hi hx (h B hB hc sl st) hs hf) fun σ H Q h => h
/-! ### targets -/
abbrev FG := PyData → Sls → Option Sls
/-- σ' is σ but for the slots ts -/
def Ts (ts : List Nat) (σ σ' : L2.St) : Prop := ∀ vs : List Nat, (∀ i ∈ ts, i ∈ vs) → wipe σ' vs = wipe σ vs
theorem wipe_set {σ : L2.St} {i : Nat} {x : Option V} : ∀ {vs : List Nat}, i ∈ vs → wipe (σ.set i x) vs = wipe σ vs
  | v :: vs, h => by
    show (wipe (σ.set i x) vs).set v none = (wipe σ vs).set v none
    by_cases hi : i ∈ vs
    · rw [wipe_set hi]
    · have e : i = v := by
        rcases List.mem_cons.mp h with h | h
        · exact h
        · exact absurd h hi
      subst e
      rw [wipe_out hi, List.set_set]
where
  wipe_out {σ : L2.St} {i : Nat} {x : Option V} : ∀ {vs : List Nat}, i ∉ vs → wipe (σ.set i x) vs = (wipe σ vs).set i x
    | [], _ => rfl
    | v :: vs, h => by
      show (wipe (σ.set i x) vs).set v none = ((wipe σ vs).set v none).set i x
      rw [wipe_out (fun z => h (List.mem_cons_of_mem _ z)), List.set_comm _ _ (fun z => h (by rw [z]; exact List.mem_cons_self))]
def SG (X : Cx) (ts : List Nat) (tg : Expr) (h : FG) : Prop := ∀ (B : Bs), B.K = X.K → ∀ (sl sl' : Sls) (st : Sto) (d : PyData), h d sl = some sl' → PG X tg (fun v σ H Q => ∃ ω, SR B ω H σ sl st ∧ Rp B.K ω.F H v d ∧ ∀ σ', Ts ts σ σ' → SR B ω H σ' sl' st → Q σ' H)
theorem pg_imp {e : Expr} {t t' : TG} (h : PG X e t) (i : ∀ v σ H Q, t' v σ H Q → t v σ H Q) : PG X e t' := ⟨fun pins s σ H v u Q I r q => h.run pins s σ H v u Q I r (i _ _ _ _ q)⟩
theorem pgs_imp {e : List Expr} {t t' : TGs} (h : PGs X e t) (i : ∀ v σ H Q, t' v σ H Q → t v σ H Q) : PGs X e t' := ⟨fun pins s σ H v u Q I r q => h.run pins s σ H v u Q I r (i _ _ _ _ q)⟩
def gN (i : Nat) : FG := fun d sl => some (sl.set i (.val d))
theorem sg_name (i : Nat) {x : Str} {pos : Pos} (hN : X.N.Nodup) (hi : X.N[i]? = some x := by rfl) (hx : Loc X.env.scope x := by first | exact .inl rfl | exact .inr rfl) (hf : X.fn x = true ∨ X.env.scope.names.lookup x = some .local := by first | exact .inl rfl | exact .inr rfl) : SG X [i] (.Name x pos) (gN i) := by
  intro B hB sl sl' st d e
  cases e
  exact pg_imp (pg_name hN hi hx hf) fun v σ H Q ⟨ω, s, r, q⟩ => q _ (fun vs hv => wipe_set (hv i List.mem_cons_self)) (s.set ⟨v, rfl, r⟩)
abbrev FGs := List PyData → Sls → Option Sls
def SGs (X : Cx) (ts : List Nat) (tgs : List Expr) (h : FGs) : Prop := ∀ (B : Bs), B.K = X.K → ∀ (sl sl' : Sls) (st : Sto) (ds : List PyData), h ds sl = some sl' → PGs X tgs (fun vs σ H Q => ∃ ω, SR B ω H σ sl st ∧ RpA B.K ω.F H vs ds ∧ ∀ σ', Ts ts σ σ' → SR B ω H σ' sl' st → Q σ' H)
def gNil' : FGs := fun ds sl => match ds with
  | [] => some sl
  | _ => none
def gCons' (h : FG) (g : FGs) : FGs := fun ds sl => match ds with
  | [] => none
  | d :: r => match h d sl with
    | none => none
    | some sl1 => g r sl1
theorem sgs_nil : SGs X [] [] gNil' := by
  intro B hB sl sl' st ds e
  refine pgs_imp pgs_nil fun vs σ H Q ⟨ω, s, r, q⟩ => ?_
  cases ds with
  | nil =>
    cases e
    cases r
    exact ⟨rfl, q _ (fun _ _ => rfl) s⟩
  | cons d r => cases e
theorem sgs_cons {e : Expr} {es : List Expr} {h : FG} {g : FGs} {t1 t2 : List Nat} (h1 : SG X t1 e h) (h2 : SGs X t2 es g) (hs : (assignEach (e :: es) X.env).map (·.2) = assign e X.env :: (assignEach es X.env).map (·.2) := by rfl) : SGs X (t1 ++ t2) (e :: es) (gCons' h g) := by
  intro B hB sl sl' st ds e
  cases ds with
  | nil => cases e
  | cons d r =>
    unfold gCons' at e
    dsimp only at e
    cases hd : h d sl with
    | none => rw [hd] at e; cases e
    | some sl1 =>
      rw [hd] at e
      refine pgs_imp (pgs_cons (h1 B hB sl sl1 st d hd) (h2 B hB sl1 sl' st r e) hs) fun vs σ H Q ⟨ω, s, ra, q⟩ => ?_
      cases ra with
      | cons a b => exact ⟨_, _, rfl, ω, s, a, fun σ' w1 s' => ⟨ω, s', b, fun σ2 w2 s2 => q σ2 (fun vs hv => (w2 vs fun i hi => hv i (List.mem_append_right _ hi)).trans (w1 vs fun i hi => hv i (List.mem_append_left _ hi))) s2⟩⟩
def gT (n : Nat) (g : FGs) : FG := fun d sl => match d with
  | .tuple ds => if ds.length = n then g ds sl else none
  | _ => none
theorem sg_tup {es : List Expr} {k : Nat} {g : FGs} {n : Nat} {pos : Pos} {ts : List Nat} (hc : X.calm = true) (h : SGs X ts es g) (hn : (assignEach es X.env).length = n := by rfl) (hst : (assignEach es X.env).findIdx? (·.1) = none := by rfl) : SG X ts (.Tuple es k pos) (gT n g) := by
  intro B hB sl sl' st d e
  unfold gT at e
  split at e
  · rename_i ds
    split at e
    · rename_i hl
      refine pg_imp (pg_tup (n := n) hc (h B hB sl sl' st ds e) hn hst) fun v σ H Q ⟨ω, s, r, q⟩ => ?_
      cases r with
      | tup f r => exact ⟨_, _, rfl, by rw [← hB]; exact f.sq, by rw [r.length]; exact hl, ω, s, r, q⟩
    · cases e
  · cases e
def sAsg (h : FG) (f : FE) : FS := fun sl st => match f sl st with
  | .fail => .fail
  | .exc x st1 => .exc x sl st1
  | .ok ev st1 => match ev.fix st1 with
    | none => .fail
    | some (d, st2) => match h d sl with
      | none => .fail
      | some sl' => .nx sl' st2
theorem ss_asg {tg e : Expr} {f : FE} {h : FG} {pos : Pos} {ts : List Nat} (hg : SG X ts tg h) (he : SE X ct W e f) (hs : swapsWithSole [tg] e pos.line X.env = pure false := by rfl) (hw : swappedStores [tg] e X.env = pure none := by rfl)
    (h1 : (assignEach [tg] X.env).map (·.2) = [assign tg X.env] := by rfl) : SS X ct W (.Assign [tg] e pos) (sAsg h f) := by
  intro B hB hc sl st
  have go : ∀ (sl' : Sls) (d : PyData) (st1 st2 : Sto) (ev : EV), f sl st = .ok ev st1 → ev.fix st1 = some (d, st2) → h d sl = some sl' → PS X (.Assign [tg] e pos) (fun D σ H => ∃ ω, SR B ω H σ sl st ∧ OutS B W ω H (.nx sl' st2) D) := by
    intro sl' d st1 st2 ev e1 e2 e3
    refine ps_imp (ps_asg (he B hB hc sl st) (hg B hB sl sl' st2 d e3) hs hw h1) fun D σ H ⟨ω, s, q⟩ => ⟨ω, s, ?_⟩
    rw [e1]
    intro v ω' H' x s' hv
    obtain ⟨ω2, x2, s2, r2⟩ := VR.fix s' hv e2
    exact ⟨ω2, s2, r2, fun σ' _ s3 => q σ' ω2 H' (x.trans x2) s3⟩
  have no : (∀ D ω H, OutS B W ω H (sAsg h f sl st) D → False) → PS X (.Assign [tg] e pos) (fun D σ H => ∃ ω, SR B ω H σ sl st ∧ OutS B W ω H (sAsg h f sl st) D) := fun hn =>
    ps_imp ps_never fun D σ H ⟨ω, s, q⟩ => (hn D ω H q).elim
  unfold sAsg at no ⊢
  cases hf : f sl st with
  | fail => rw [hf] at no; exact no fun _ _ _ q => q
  | exc x st1 =>
    refine ps_imp (ps_asg (g := fun v σ H Q => False) (he B hB hc sl st) ⟨fun _ _ _ _ _ _ _ _ _ z => z.elim⟩ hs hw h1) fun D σ H ⟨ω, s, q⟩ => ⟨ω, s, ?_⟩
    rw [hf]
    exact fun cls d ω' H' e s' r => q cls d σ ω' H' e s' r
  | ok ev st1 =>
    rw [hf] at no
    dsimp only at no ⊢
    cases hx : ev.fix st1 with
    | none => rw [hx] at no; exact no fun _ _ _ q => q
    | some p =>
      obtain ⟨d, st2⟩ := p
      rw [hx] at no
      dsimp only at no ⊢
      cases hd : h d sl with
      | none => rw [hd] at no; exact no fun _ _ _ q => q
      | some sl' => exact go sl' d st1 st2 ev hf hx hd
/-! ### blocks -/
def sSeq (f g : FS) : FS := fun sl st => match f sl st with
  | .nx sl1 st1 => g sl1 st1
  | r => r
theorem sss_nil : SSs X ct W [] sNext := fun B hB hc sl st => pss_imp pss_nil fun D σ H ⟨ω, s, q⟩ => q σ ω H .refl s
theorem sss_one {s : Stmt} {f : FS} (h : SS X ct W s f) : SSs X ct W [s] f := fun B hB hc sl st => pss_one (h B hB hc sl st)
theorem sss_cons {s : Stmt} {r : List Stmt} {f g : FS} (h1 : SS X ct W s f) (h2 : SSs X ct W r g) : SSs X ct W (s :: r) (sSeq f g) := by
  intro B hB hc sl st
  have no : ∀ {k : RS}, f sl st = k → (∀ sl1 st1, k ≠ .nx sl1 st1) → PSs X (s :: r) (fun D σ H => ∃ ω, SR B ω H σ sl st ∧ OutS B W ω H (sSeq f g sl st) D) := fun {k} e hn => by
    refine pss_imp (pss_cons (h1 B hB hc sl st) (pss_never (sts := r))) fun D σ H ⟨ω, s, q⟩ => ⟨ω, s, ?_⟩
    unfold sSeq at q
    rw [e] at q ⊢
    cases k with
    | nx sl1 st1 => exact absurd rfl (hn sl1 st1)
    | fail => exact q
    | rt d st1 => exact q
    | rn d st1 => exact q
    | bk sl1 st1 => exact q
    | ct sl1 st1 => exact q
    | exc x sl1 st1 => exact q
  cases hf : f sl st with
  | nx sl1 st1 =>
    refine pss_imp (pss_cons (h1 B hB hc sl st) (h2 B hB hc sl1 st1)) fun D σ H ⟨ω, s, q⟩ => ⟨ω, s, ?_⟩
    unfold sSeq at q
    rw [hf] at q ⊢
    exact fun σ' ω' H' x s' => ⟨ω', s', OutS.up q x⟩
  | fail => exact no hf fun _ _ z => nomatch z
  | rt d st1 => exact no hf fun _ _ z => nomatch z
  | rn d st1 => exact no hf fun _ _ z => nomatch z
  | bk sl1 st1 => exact no hf fun _ _ z => nomatch z
  | ct sl1 st1 => exact no hf fun _ _ z => nomatch z
  | exc x sl1 st1 => exact no hf fun _ _ z => nomatch z
def sIf (t : FT) (f g : FS) : FS := fun sl st => match t sl st with
  | .ok true st1 => f sl st1
  | .ok false st1 => g sl st1
  | .exc x st1 => .exc x sl st1
  | .fail => .fail
theorem ss_if {c : Expr} {a b : List Stmt} {t : FT} {f g : FS} {pos} (h : ST X ct W c t) (h1 : SSs X ct W a f) (h2 : SSs X ct W b g) : SS X ct W (.If c a b pos) (sIf t f g) := by
  intro B hB hc sl st
  cases ht : t sl st with
  | fail =>
    refine ps_imp ps_never fun D σ H ⟨ω, s, q⟩ => ?_
    unfold sIf at q
    rw [ht] at q
    exact q
  | exc x st1 =>
    refine ps_imp (ps_if (h B hB hc sl st) (pss_never (sts := a)) (pss_never (sts := b))) fun D σ H ⟨ω, s, q⟩ => ⟨ω, s, ?_⟩
    unfold sIf at q
    rw [ht] at q ⊢
    exact fun cls d ω' H' e s' r => q cls d σ ω' H' e s' r
  | ok k st1 =>
    refine ps_imp (ps_if (h B hB hc sl st) (h1 B hB hc sl st1) (h2 B hB hc sl st1)) fun D σ H ⟨ω, s, q⟩ => ⟨ω, s, ?_⟩
    unfold sIf at q
    rw [ht] at q ⊢
    intro ω' H' x s'
    cases k with
    | true => rw [if_pos rfl]; exact ⟨ω', s', OutS.up q x⟩
    | false => rw [if_neg Bool.false_ne_true]; exact ⟨ω', s', OutS.up q x⟩
/-! ### loops -/
def sFor (h : FG) (b : FS) : List PyData → FS
  | [], sl, st => .nx sl st
  | d :: ds, sl, st => match h d sl with
    | none => .fail
    | some sl1 => match b sl1 st with
      | .nx sl2 st2 => sFor h b ds sl2 st2
      | .ct sl2 st2 => sFor h b ds sl2 st2
      | .bk sl2 st2 => .nx sl2 st2
      | .rt d st2 => .rt d st2
      | .rn d st2 => .rn d st2
      | .exc x sl2 st2 => .exc x sl2 st2
      | .fail => .fail
def sWhile (t : FT) (b : FS) : Nat → FS
  | 0, _, _ => .fail
  | n + 1, sl, st => match t sl st with
    | .fail => .fail
    | .exc x st1 => .exc x sl st1
    | .ok false st1 => .nx sl st1
    | .ok true st1 => match b sl st1 with
      | .nx sl2 st2 => sWhile t b n sl2 st2
      | .ct sl2 st2 => sWhile t b n sl2 st2
      | .bk sl2 st2 => .nx sl2 st2
      | .rt d st2 => .rt d st2
      | .rn d st2 => .rn d st2
      | .exc x sl2 st2 => .exc x sl2 st2
      | .fail => .fail
end
end Px
namespace Px
open PySem PySem.Spec PyProof.Rows L2

section
variable {X : Cx} {ct : Gx} {W : WX}
/-! ### what a for walks: data, item by item -/
structure Walks (X : Cx) (F : Addr → Prop) (H : Hp) (J : It) (ds : List PyData) : Prop where
  go : ∀ F' H' i, Fr F H F' H' → i < ds.length → J.go i H'
  stop : ∀ F' H' , Fr F H F' H' → J.stop ds.length H'
  yld : ∀ F' H' i x H'' d, Fr F H F' H' → (∀ a, F' a → H' a ≠ none) → ds[i]? = some d → J.yld i H' x H'' → ∃ F'', PEx F' H' F'' H'' ∧ Rp X.K F'' H'' x d
abbrev FI := Sls → Sto → Re (List PyData)
def OutI (B : Bs) (W : WX) (X : Cx) (σ : L2.St) (ω : Wd) (H : Hp) (sl : Sls) (r : Re (List PyData)) (R : It → Hp → Prop) : Prop := match r with
  | .fail => False
  | .ok ds st => ∀ J ω' H', Ext B ω H ω' H' → SR B ω' H' σ sl st → Walks X ω'.F H' J ds → R J H'
  | .exc x st => ∀ cls d ω' H', Ext B ω H ω' H' → SR B ω' H' σ sl st → ExR B x cls d H' → W cls d σ H'
def SI (X : Cx) (ct : Gx) (W : WX) (tg it : Expr) (f : FI) : Prop := ∀ (B : Bs), B.K = X.K → B.ct = ct → ∀ sl st, PI X tg it (fun σ H R => ∃ ω, SR B ω H σ sl st ∧ OutI B W X σ ω H sl (f sl st) R)
theorem pi_imp {tg it : Expr} {t t' : TI} (h : PI X tg it t) (i : ∀ σ H R, t' σ H R → t σ H R) : PI X tg it t' := ⟨fun pins s σ H R I q => h.run pins s σ H R I (i _ _ _ q)⟩
def iSeq (f : FE) : FI := fun sl st => match f sl st with
  | .fail => .fail
  | .exc x st1 => .exc x st1
  | .ok ev st1 => match ev.fix st1 with
    | some (.list ds, st2) => .ok ds st2
    | some (.tuple ds, st2) => .ok ds st2
    | _ => .fail
theorem walks_list {F : Addr → Prop} {H : Hp} {a : Addr} {xs : List V} {ds : List PyData} (f : FzL X.K F H a xs) (r : RpA X.K F H xs ds) : Walks X F H (Itl X.K a) ds where
  go := fun F' H' i e hi => by
    have hx : i < xs.length := by rw [r.length]; exact hi
    exact ⟨xs, xs[i], (f.mono e).sq, List.getElem?_eq_getElem hx⟩
  stop := fun F' H' e => ⟨xs, (f.mono e).sq, by rw [r.length]; exact Nat.le_refl _⟩
  yld := fun F' H' i x H'' d e dm hd hy => by
    obtain ⟨rfl, fv⟩ := hy
    obtain ⟨v, h1, h2⟩ := r.get hd
    have := fv xs (f.mono e).sq
    rw [h1] at this
    cases this
    exact ⟨F', PEx.refl dm, h2.up e⟩
theorem walks_tup {F : Addr → Prop} {H : Hp} {a : Addr} {xs : List V} {ds : List PyData} (f : FzT X.K F H a xs) (r : RpA X.K F H xs ds) : Walks X F H (Itt X.K a) ds where
  go := fun F' H' i e hi => by
    have hx : i < xs.length := by rw [r.length]; exact hi
    exact ⟨xs, xs[i], (f.mono e).sq, List.getElem?_eq_getElem hx⟩
  stop := fun F' H' e => ⟨xs, (f.mono e).sq, by rw [r.length]; exact Nat.le_refl _⟩
  yld := fun F' H' i x H'' d e dm hd hy => by
    obtain ⟨rfl, fv⟩ := hy
    obtain ⟨v, h1, h2⟩ := r.get hd
    have := fv xs (f.mono e).sq
    rw [h1] at this
    cases this
    exact ⟨F', PEx.refl dm, h2.up e⟩
theorem si_seq {tg e : Expr} {f : FE} (h : SE X ct W e f) (rl : ∀ tl, PE X e tl → PI X tg e (iList X.K tl)) (rt : ∀ tl, PE X e tl → PI X tg e (iTup X.K tl)) : SI X ct W tg e (iSeq f) := by
  intro B hB hc sl st
  unfold iSeq
  cases hf : f sl st with
  | fail =>
    refine pi_imp (rl _ (h B hB hc sl st)) fun σ H R ⟨ω, s, q⟩ => q.elim
  | exc x st1 =>
    refine pi_imp (rl _ (h B hB hc sl st)) fun σ H R ⟨ω, s, q⟩ => ⟨ω, s, ?_⟩
    rw [hf]
    exact q
  | ok ev st1 =>
    dsimp only
    cases hx : ev.fix st1 with
    | none => exact pi_imp (rl _ (h B hB hc sl st)) fun σ H R ⟨ω, s, q⟩ => q.elim
    | some p =>
      obtain ⟨d, st2⟩ := p
      cases d with
      | list ds =>
        refine pi_imp (rl _ (h B hB hc sl st)) fun σ H R ⟨ω, s, q⟩ => ⟨ω, s, ?_⟩
        rw [hf]
        intro v ω' H' x s' hv
        obtain ⟨ω2, x2, s2, r2⟩ := VR.fix s' hv hx
        rw [hB] at r2
        cases r2 with
        | lst f2 r2 => exact ⟨_, rfl, ⟨_, f2.sq⟩, q _ ω2 H' (x.trans x2) s2 (walks_list f2 r2)⟩
      | tuple ds =>
        refine pi_imp (rt _ (h B hB hc sl st)) fun σ H R ⟨ω, s, q⟩ => ⟨ω, s, ?_⟩
        rw [hf]
        intro v ω' H' x s' hv
        obtain ⟨ω2, x2, s2, r2⟩ := VR.fix s' hv hx
        rw [hB] at r2
        cases r2 with
        | tup f2 r2 => exact ⟨_, rfl, ⟨_, f2.sq⟩, q _ ω2 H' (x.trans x2) s2 (walks_tup f2 r2)⟩
      | none => exact pi_imp (rl _ (h B hB hc sl st)) fun σ H R ⟨ω, s, q⟩ => q.elim
      | bool _ => exact pi_imp (rl _ (h B hB hc sl st)) fun σ H R ⟨ω, s, q⟩ => q.elim
      | int _ => exact pi_imp (rl _ (h B hB hc sl st)) fun σ H R ⟨ω, s, q⟩ => q.elim
      | str _ => exact pi_imp (rl _ (h B hB hc sl st)) fun σ H R ⟨ω, s, q⟩ => q.elim
      | dict _ => exact pi_imp (rl _ (h B hB hc sl st)) fun σ H R ⟨ω, s, q⟩ => q.elim
/-- a text's signs -/
def signs (x : Str) : List PyData := x.cps.toList.map fun c => .str ⟨#[c]⟩
def iText (f : FE) : FI := fun sl st => match f sl st with
  | .fail => .fail
  | .exc x st1 => .exc x st1
  | .ok (.val (.str x)) st1 => .ok (signs x) st1
  | .ok _ _ => .fail
theorem si_text {tg e : Expr} {f : FE} (h : SE X ct W e f) (rl : ∀ tl, PE X e tl → PI X tg e (iStr tl)) : SI X ct W tg e (iText f) := by
  intro B hB hc sl st
  refine pi_imp (rl _ (h B hB hc sl st)) fun σ H R ⟨ω, s, q⟩ => ⟨ω, s, ?_⟩
  unfold iText at q
  cases hf : f sl st with
  | fail => rw [hf] at q; exact q
  | exc x st1 => rw [hf] at q; exact q
  | ok ev st1 =>
    rw [hf] at q
    intro v ω' H' x s' hv
    cases ev with
    | bor n => exact q.elim
    | new o => exact q.elim
    | val d =>
      cases d with
      | str y =>
        have hv' : Rp B.K ω'.F H' v (.str y) := hv
        have k := (Bp.rp hv').ok_
        cases hv'
        refine ⟨y, rfl, q _ ω' H' x s' ⟨fun F2 H2 i e hi => ?_, fun F2 H2 e => ?_, fun F2 H2 i x2 H3 d e dm hd hy => ?_⟩⟩
        · unfold signs at hi
          rw [List.length_map] at hi
          show i < y.cps.size
          simpa using hi
        · show y.cps.size ≤ (signs y).length
          unfold signs
          rw [List.length_map]
          simp
        · obtain ⟨rfl, c, hc1, hc2⟩ := hy
          subst hc2
          unfold signs at hd
          rw [List.getElem?_map] at hd
          have hc1' : y.cps.toList[i]? = some c := by simpa using hc1
          rw [hc1'] at hd
          cases hd
          exact ⟨F2, PEx.refl dm, .str _ (by rw [strOk_iff] at *; intro c2 h2; simp at h2; subst h2; exact k _ (List.mem_of_getElem? hc1'))⟩
      | none => exact q.elim
      | bool _ => exact q.elim
      | int _ => exact q.elim
      | list _ => exact q.elim
      | tuple _ => exact q.elim
      | dict _ => exact q.elim
/-- lo, lo + 1, .. -/
def rngL (lo : Int) (n : Nat) : List PyData := (List.range n).map fun (i : Nat) => .int (lo + (i : Int))
theorem rngL_len (lo : Int) (n : Nat) : (rngL lo n).length = n := by
  unfold rngL
  rw [List.length_map, List.length_range]
theorem walks_range {F : Addr → Prop} {H : Hp} {lo : Int} {n : Nat} : Walks X F H (Itr lo n) (rngL lo n) where
  go := fun F' H' i e hi => by
    rw [rngL_len] at hi
    exact hi
  stop := fun F' H' e => by
    show n ≤ (rngL lo n).length
    rw [rngL_len]
    exact Nat.le_refl _
  yld := fun F' H' i x H'' d e dm hd hy => by
    obtain ⟨rfl, rfl⟩ := hy
    unfold rngL at hd
    rw [List.getElem?_map] at hd
    cases h : (List.range n)[i]? with
    | none => rw [h] at hd; cases hd
    | some j =>
      rw [h] at hd
      cases hd
      have hj : j = i := by
        obtain ⟨h1, h2⟩ := List.getElem?_eq_some_iff.mp h
        simp at h2
        exact h2.symm
      subst hj
      exact ⟨F', PEx.refl dm, .int _⟩
abbrev Small (n : Int) : Prop := -4611686018427387904 ≤ n ∧ n < 4611686018427387904
def iR1 (f : FE) : FI := fun sl st => match f sl st with
  | .fail => .fail
  | .exc x st1 => .exc x st1
  | .ok (.val (.int n)) st1 => if Small n then .ok (rngL 0 n.toNat) st1 else .fail
  | .ok _ _ => .fail
theorem si_range1 {tg a : Expr} {f : FE} {p pos} (h : SE X ct W a f) (hg : Gl X "range") (hm : X.mg "range" = none) (hs : starEach [a] X.env = (false, eval a X.env) :: starEach [] X.env := by rfl) : SI X ct W tg (.Call (.Name "range" p) [a] [] pos) (iR1 f) := by
  intro B hB hc sl st
  refine pi_imp (pi_range1 hg hm (pa_cons (h B hB hc sl st) pa_nil hs) hs) fun σ H R ⟨ω, s, q⟩ => ⟨ω, s, ?_⟩
  unfold iR1 at q
  cases hf : f sl st with
  | fail => rw [hf] at q; exact q
  | exc x st1 => rw [hf] at q; exact q
  | ok ev st1 =>
    rw [hf] at q
    intro v ω' H' x s' hv
    cases ev with
    | bor n => exact q.elim
    | new o => exact q.elim
    | val d =>
      cases d with
      | int n =>
        have hv' : Rp B.K ω'.F H' v (.int n) := hv
        cases hv'
        dsimp only at q
        split at q
        · rename_i hn
          exact ⟨n, rfl, hn.1, hn.2, q _ ω' H' x s' walks_range⟩
        · exact q.elim
      | none => exact q.elim
      | bool _ => exact q.elim
      | str _ => exact q.elim
      | list _ => exact q.elim
      | tuple _ => exact q.elim
      | dict _ => exact q.elim
/-! ### for -/
def sForI (fi : FI) (h : FG) (b : FS) : FS := fun sl st => match fi sl st with
  | .fail => .fail
  | .exc x st1 => .exc x sl st1
  | .ok ds st1 => sFor h b ds sl st1
theorem SSs.all {b : List Stmt} {f : FS} (h : SSs X ct W b f) {B : Bs} (hB : B.K = X.K) (hc : B.ct = ct) : PSs X b (fun D σ H => ∃ sl st ω, SR B ω H σ sl st ∧ OutS B W ω H (f sl st) D) :=
  ⟨fun pins s σ H D I ⟨sl, st, q⟩ => (h B hB hc sl st).run pins s σ H D I q⟩
theorem SG.all {tg : Expr} {h : FG} {ts : List Nat} (g : SG X ts tg h) {B : Bs} (hB : B.K = X.K) : PG X tg (fun v σ H Q => ∃ sl sl' st d ω, h d sl = some sl' ∧ SR B ω H σ sl st ∧ Rp B.K ω.F H v d ∧ ∀ σ', Ts ts σ σ' → SR B ω H σ' sl' st → Q σ' H) :=
  ⟨fun pins s σ H v u Q I r ⟨sl, sl', st, d, ω, e, q⟩ => (g B hB sl sl' st d e).run pins s σ H v u Q I r ⟨ω, q⟩⟩
theorem ss_for {tg it : Expr} {body : List Stmt} {fi : FI} {h : FG} {b : FS} {pos} {ts : List Nat} (hp : PassesOwn (model X.prog X.w) X.A X.env X.xe) (hcalm : X.calm = true) (hi : SI X ct W tg it fi) (hg : SG X ts tg h) (hb : SSs X ct W body b)
    (hs : ∀ x, foldedSetIterable it X.env x = pure x := by intro _; rfl) : SS X ct W (.For tg it body [] pos) (sForI fi h b) := by
  intro B hB hc sl st
  refine ps_imp (ps_for hp hcalm (hi B hB hc sl st) (hg.all hB) (hb.all hB hc) hs) fun D σ H ⟨ω, s, q⟩ => ⟨ω, s, ?_⟩
  unfold sForI at q
  cases hf : fi sl st with
  | fail => rw [hf] at q; exact q
  | exc x st1 => rw [hf] at q; exact fun cls d ω' H' e s' r => q cls d σ ω' H' e s' r
  | ok ds st1 =>
    rw [hf] at q
    dsimp only at q
    intro J ω1 H1 x1 s1 wk
    refine ⟨fun i m σ' H' => i + m = ds.length ∧ ∃ ω' sl' st', SR B ω' H' σ' sl' st' ∧ Ext B ω1 H1 ω' H' ∧ OutS B W ω' H' (sFor h b (ds.drop i) sl' st') D, ⟨ds.length, by omega, ω1, sl, st1, s1, .refl, by rw [List.drop_zero]; exact OutS.up q x1⟩, ?_⟩
    rintro i m σ' H' ⟨em, ω', sl', st', s', e', q'⟩
    by_cases hi : i < ds.length
    · refine .inr ⟨wk.go _ _ i e'.fr hi, ?_⟩
      have hd : ds[i]? = some ds[i] := List.getElem?_eq_getElem hi
      rw [List.drop_eq_getElem_cons hi] at q'
      unfold sFor at q'
      cases hh : h ds[i] sl' with
      | none => rw [hh] at q'; exact q'.elim
      | some sl2 =>
        rw [hh] at q'
        dsimp only at q'
        refine ⟨fun σ3 H3 => ∃ ω3 sl3 st3, SR B ω3 H3 σ3 sl3 st3 ∧ Ext B ω1 H1 ω3 H3 ∧ OutS B W ω3 H3 (sFor h b (ds.drop (i + 1)) sl3 st3) D, fun σ3 H3 ⟨ω3, sl3, st3, s3, e3, q3⟩ => ⟨m - 1, by omega, by omega, ω3, sl3, st3, s3, e3, q3⟩, fun x H2 hy => ?_⟩
        obtain ⟨F2, px, rx⟩ := wk.yld _ _ i x H2 _ e'.fr s'.dom hd hy
        refine ⟨sl', sl2, st', ds[i], ⟨F2, ω'.ad⟩, hh, s'.pure px, by rw [hB]; exact rx, fun σ2 _ s2 => ?_⟩
        have e2 : Ext B ω' H' ⟨F2, ω'.ad⟩ H2 := s'.px px
        refine ⟨sl2, st', _, s2, ?_⟩
        cases hb2 : b sl2 st' with
        | fail => rw [hb2] at q'; exact q'.elim
        | nx sl4 st4 =>
          rw [hb2] at q'
          exact fun σ5 ω5 H5 x5 s5 => ⟨ω5, sl4, st4, s5, (e'.trans e2).trans x5, OutS.up q' (e2.trans x5)⟩
        | ct sl4 st4 =>
          rw [hb2] at q'
          exact fun σ5 ω5 H5 x5 s5 => ⟨ω5, sl4, st4, s5, (e'.trans e2).trans x5, OutS.up q' (e2.trans x5)⟩
        | bk sl4 st4 =>
          rw [hb2] at q'
          exact fun σ5 ω5 H5 x5 s5 => q' σ5 ω5 H5 (e2.trans x5) s5
        | rt d st4 =>
          rw [hb2] at q'
          exact fun v5 σ5 ω5 H5 sl5 x5 => q' v5 σ5 ω5 H5 sl5 (e2.trans x5)
        | rn d st4 =>
          rw [hb2] at q'
          exact fun v5 σ5 ω5 H5 sl5 x5 => q' v5 σ5 ω5 H5 sl5 (e2.trans x5)
        | exc x4 sl4 st4 =>
          rw [hb2] at q'
          exact fun cls5 d5 σ5 ω5 H5 x5 => q' cls5 d5 σ5 ω5 H5 (e2.trans x5)
    · have hi' : i = ds.length := by omega
      subst hi'
      refine .inl ⟨wk.stop _ _ e'.fr, ?_⟩
      rw [List.drop_length] at q'
      exact q' σ' ω' H' .refl s'
/-! ### while -/
def sWhileN (n : Nat) (t : FT) (b : FS) : FS := sWhile t b n
theorem ST.all {c : Expr} {t : FT} (h : ST X ct W c t) {B : Bs} (hB : B.K = X.K) (hc : B.ct = ct) : PT X c (fun σ H Q => ∃ sl st ω, SR B ω H σ sl st ∧ OutT B W σ ω H sl (t sl st) Q) :=
  ⟨fun pins s σ H Q I ⟨sl, st, q⟩ => (h B hB hc sl st).run pins s σ H Q I q⟩
theorem ss_while (n : Nat) {c : Expr} {body : List Stmt} {t : FT} {b : FS} {pos} (hp : PassesOwn (model X.prog X.w) X.A X.env X.xe) (ht : ST X ct W c t) (hb : SSs X ct W body b) : SS X ct W (.While c body [] pos) (sWhileN n t b) := by
  intro B hB hc sl st
  refine ps_imp (ps_while hp (ht.all hB hc) (hb.all hB hc)) fun D σ H ⟨ω, s, q⟩ => ?_
  refine ⟨fun m σ' H' => ∃ ω' sl' st', SR B ω' H' σ' sl' st' ∧ OutS B W ω' H' (sWhile t b m sl' st') D, ⟨n, ω, sl, st, s, q⟩, ?_⟩
  rintro m σ' H' ⟨ω', sl', st', s', q'⟩
  cases m with
  | zero => exact q'.elim
  | succ m =>
    refine ⟨sl', st', ω', s', ?_⟩
    unfold sWhile at q'
    cases hf : t sl' st' with
    | fail => rw [hf] at q'; exact q'
    | exc x st1 => rw [hf] at q'; exact fun cls d ω2 H2 e s2 r => q' cls d σ' ω2 H2 e s2 r
    | ok k st1 =>
      rw [hf] at q'
      intro ω2 H2 x2 s2
      cases k with
      | false =>
        rw [if_neg Bool.false_ne_true]
        exact q' σ' ω2 H2 x2 s2
      | true =>
        rw [if_pos rfl]
        dsimp only at q'
        refine ⟨fun σ3 H3 => ∃ ω3 sl3 st3, SR B ω3 H3 σ3 sl3 st3 ∧ OutS B W ω3 H3 (sWhile t b m sl3 st3) D, fun σ3 H3 z => ⟨m, Nat.lt_succ_self m, z⟩, sl', st1, ω2, s2, ?_⟩
        cases hb2 : b sl' st1 with
        | fail => rw [hb2] at q'; exact q'.elim
        | nx sl4 st4 =>
          rw [hb2] at q'
          exact fun σ5 ω5 H5 x5 s5 => ⟨ω5, sl4, st4, s5, OutS.up q' (x2.trans x5)⟩
        | ct sl4 st4 =>
          rw [hb2] at q'
          exact fun σ5 ω5 H5 x5 s5 => ⟨ω5, sl4, st4, s5, OutS.up q' (x2.trans x5)⟩
        | bk sl4 st4 =>
          rw [hb2] at q'
          exact fun σ5 ω5 H5 x5 s5 => q' σ5 ω5 H5 (x2.trans x5) s5
        | rt d st4 =>
          rw [hb2] at q'
          exact fun v5 σ5 ω5 H5 sl5 x5 => q' v5 σ5 ω5 H5 sl5 (x2.trans x5)
        | rn d st4 =>
          rw [hb2] at q'
          exact fun v5 σ5 ω5 H5 sl5 x5 => q' v5 σ5 ω5 H5 sl5 (x2.trans x5)
        | exc x4 sl4 st4 =>
          rw [hb2] at q'
          exact fun cls5 d5 σ5 ω5 H5 x5 => q' cls5 d5 σ5 ω5 H5 (x2.trans x5)
end
end Px
namespace Px
open PySem PySem.Spec PyProof.Rows L2

/-! ### a def as a function -/
inductive Arg where
  | val (d : PyData)
  | io (o : MO)
def slots0 : List Arg → Nat → Sls
  | [], _ => []
  | .val d :: r, n => .val d :: slots0 r n
  | .io _ :: r, n => .ref n :: slots0 r (n + 1)
def cells0 : List Arg → Sto
  | [] => []
  | .val _ :: r => cells0 r
  | .io o :: r => .io o :: cells0 r
def outs : Sto → List MO
  | .io o :: r => o :: outs r
  | _ => []
inductive DR where
  | fail
  | rt (d : PyData) (os : List MO)
  | rn (o : MO) (os : List MO)
  | exc (x : Exn) (os : List MO)
abbrev FD := List Arg → DR
def endD : RS → DR
  | .nx _ st => .rt .none (outs st)
  | .rt d st => .rt d (outs st)
  | .rn o st => .rn o (outs st)
  | .exc x _ st => .exc x (outs st)
  | _ => .fail
def runD (n : Nat) (g : FS) : FD := fun args => endD (g (slots0 args 0 ++ List.replicate (n - args.length) .non) (cells0 args))
inductive ArgsR (K : PySem.W.Frag) (F : Addr → Prop) (H : Hp) : List V → List Arg → List Addr → Prop
  | nil : ArgsR K F H [] [] []
  | val {v : V} {d : PyData} {vs : List V} {as : List Arg} {l : List Addr} : Rp K F H v d → ArgsR K F H vs as l → ArgsR K F H (v :: vs) (.val d :: as) l
  | io {p : Addr} {o : MO} {vs : List V} {as : List Arg} {l : List Addr} : ¬ F p → MOR K F H p o → ArgsR K F H vs as l → ArgsR K F H (.ref p :: vs) (.io o :: as) (p :: l)
def IoR (K : PySem.W.Frag) (F : Addr → Prop) (H : Hp) : List Addr → List MO → Prop := Paired fun p o => ¬ F p ∧ MOR K F H p o
structure Post (K : PySem.W.Frag) (F : Addr → Prop) (H : Hp) (io : List Addr) (F' : Addr → Prop) (H' : Hp) (os : List MO) : Prop where
  fr : Fr F H F' H'
  keep : ∀ a o, H a = some o → a ∉ io → H' a = some o
  new : ∀ a, F' a → F a ∨ H a = none
  dom : ∀ a, F' a → H' a ≠ none
  out : IoR K F' H' io os
def OutD (K : PySem.W.Frag) (ct : Gx) (F : Addr → Prop) (H : Hp) (io : List Addr) (r : DR) (Q : VK) (E : XK) : Prop := match r with
  | .fail => False
  | .rt d os => ∀ v F' H', Post K F H io F' H' os → Rp K F' H' v d → Q v H'
  | .rn o os => ∀ p F' H', Post K F H io F' H' os → H p = none → ¬ F' p → MOR K F' H' p o → Q (.ref p) H'
  | .exc x os => ∀ cls dd F' H' C, Post K F H io F' H' os → ct.tab x.nm = some C → cls = .ref C → dd = none → x.num = none → E cls dd H'
def spOf (K : PySem.W.Frag) (ct : Gx) (n : Nat) (D : FD) : Sp := fun vs H Q E => ∃ F args io, vs.length = n ∧ ArgsR K F H vs args io ∧ (∀ a, F a → H a ≠ none) ∧ io.Nodup ∧ OutD K ct F H io (D args) Q E

theorem ArgsR.length {K : PySem.W.Frag} {F : Addr → Prop} {H : Hp} : ∀ {vs : List V} {as : List Arg} {io : List Addr}, ArgsR K F H vs as io → vs.length = as.length
  | _, _, _, .nil => rfl
  | _, _, _, .val _ r => congrArg (· + 1) r.length
  | _, _, _, .io _ _ r => congrArg (· + 1) r.length
theorem ArgsR.cells {K : PySem.W.Frag} {F : Addr → Prop} {H : Hp} : ∀ {vs : List V} {as : List Arg} {io : List Addr}, ArgsR K F H vs as io → IoR K F H io (outs (cells0 as)) ∧ (cells0 as).length = io.length ∧ ∀ (n : Nat) (c : Cell), (cells0 as)[n]? = some c → ∃ o, c = .io o
  | _, _, _, .nil => ⟨.nil, rfl, fun n c h => by cases h⟩
  | _, _, _, .val _ r => r.cells
  | _, _, _, .io h m r => ⟨.cons ⟨h, m⟩ r.cells.1, congrArg (· + 1) r.cells.2.1, fun n c e => by
      cases n with
      | zero => cases e; exact ⟨_, rfl⟩
      | succ n => exact r.cells.2.2 n c e⟩
theorem IoR.get {K : PySem.W.Frag} {F : Addr → Prop} {H : Hp} : ∀ {io : List Addr} {st : Sto} {n : Nat} {o : MO} {p : Addr}, IoR K F H io (outs st) → st[n]? = some (.io o) → io[n]? = some p → (∀ m c, m ≤ n → st[m]? = some c → ∃ o, c = .io o) → ¬ F p ∧ MOR K F H p o
  | _, [], _, _, _, _, h, _, _ => by cases h
  | _, c :: st, 0, o, p, r, h, h2, _ => by
    cases h
    cases r with
    | cons a b => cases h2; exact a
  | _, c :: st, n + 1, o, p, r, h, h2, k => by
    obtain ⟨o', rfl⟩ := k 0 c (Nat.zero_le _) rfl
    cases r with
    | cons a b => exact IoR.get (n := n) b h h2 fun m c hm e => k (m + 1) c (Nat.succ_le_succ hm) e
theorem ArgsR.slots {K : PySem.W.Frag} {F : Addr → Prop} {H : Hp} : ∀ {vs : List V} {as : List Arg} {io io0 : List Addr}, ArgsR K F H vs as io → ∀ (i : Nat) (s : Sl), (slots0 as io0.length)[i]? = some s → ∀ g : Gx, SlR K F (io0 ++ io) g H (vs.map some)[i]? s
  | _, _, _, _, .nil, i, s, h, _ => by cases h
  | _, _, _, io0, .val (v := v) (d := d) rv r, i, s, h, g => by
    cases i with
    | zero => cases h; exact ⟨v, rfl, rv⟩
    | succ i => exact r.slots (io0 := io0) i s h g
  | _, _, _, io0, @ArgsR.io _ _ _ p _ _ _ _ hf m r, i, s, h, g => by
    cases i with
    | zero => cases h; exact ⟨p, by simp, rfl⟩
    | succ i =>
      have := r.slots (io0 := io0 ++ [p]) i s (by rw [List.length_append]; exact h) g
      rw [List.append_assoc] at this
      exact this
theorem slots0_len : ∀ (as : List Arg) (n : Nat), (slots0 as n).length = as.length
  | [], _ => rfl
  | .val _ :: r, n => congrArg (· + 1) (slots0_len r n)
  | .io _ :: r, n => congrArg (· + 1) (slots0_len r (n + 1))
section
variable {K : PySem.W.Frag} {ct : Gx}
/-- the state at a def's entry -/
theorem SR.start {F : Addr → Prop} {H : Hp} {vs : List V} {as : List Arg} {io : List Addr} {N : List Str} (r : ArgsR K F H vs as io) (dm : ∀ a, F a → H a ≠ none) (nd : io.Nodup) (hN : as.length ≤ N.length) :
    SR ⟨K, H, F, io, ct, []⟩ ⟨F, io⟩ H (L2.start N vs) (slots0 as 0 ++ List.replicate (N.length - as.length) .non) (cells0 as) where
  len := by
    unfold L2.start
    rw [List.length_append, List.length_append, List.length_map, List.length_replicate, List.length_replicate, slots0_len, r.length]
  dom := dm
  keep := fun a o h _ => h
  newF := fun a h => .inl h
  oldF := fun a h => h
  adl := r.cells.2.1.symm
  nd := nd
  iop := List.prefix_refl _
  adn := fun p hp => .inl hp
  ioc := fun n c _ h => r.cells.2.2 n c h
  ioc2 := fun n o h => by
    have := (List.getElem?_eq_some_iff.mp h).1
    rw [r.cells.2.1] at this
    exact this
  there := fun p hp => by
    obtain ⟨n, hn, e⟩ := List.getElem_of_mem hp
    have hc : n < (cells0 as).length := by rw [r.cells.2.1]; exact hn
    obtain ⟨o, ho⟩ := r.cells.2.2 n _ (List.getElem?_eq_getElem hc)
    have := IoR.get r.cells.1 (by rw [List.getElem?_eq_getElem hc, ho]) (List.getElem?_eq_getElem hn) fun m c _ h => r.cells.2.2 m c h
    rw [e] at this
    exact this.2.some
  prF := fun p hp => absurd hp (by simp)
  prA := fun p hp => absurd hp (by simp)
  prH := fun p hp => absurd hp (by simp)
  slot := fun i s h => by
    unfold L2.start
    by_cases hi : i < as.length
    · rw [List.getElem?_append_left (by rw [slots0_len]; exact hi)] at h
      rw [List.getElem?_append_left (by rw [List.length_map, r.length]; exact hi)]
      have := r.slots (io0 := []) i s h ct
      exact this
    · rw [List.getElem?_append_right (by rw [slots0_len]; omega), List.getElem?_replicate] at h
      split at h
      · cases h; exact trivial
      · cases h
  cell := fun n c p h1 h2 => by
    obtain ⟨o, rfl⟩ := r.cells.2.2 n c h1
    exact IoR.get r.cells.1 h1 h2 fun m c _ h => r.cells.2.2 m c h
/-- what stands in the things handed in at the end -/
theorem outs_ok {K : PySem.W.Frag} {F : Addr → Prop} {H : Hp} : ∀ {io ad : List Addr} {st : Sto}, io <+: ad → ad.length = st.length → (∀ (n : Nat) (c : Cell), n < io.length → st[n]? = some c → ∃ o, c = .io o) → (∀ (n : Nat) (o : MO), st[n]? = some (.io o) → n < io.length) →
    (∀ (n : Nat) (c : Cell) (p : Addr), st[n]? = some c → ad[n]? = some p → CellR K F H p c) → IoR K F H io (outs st)
  | [], ad, st, _, _, _, h2, _ => by
    cases st with
    | nil => exact .nil
    | cons c st =>
      cases c with
      | live o => exact .nil
      | fz d => exact .nil
      | io o => exact absurd (h2 0 o rfl) (by simp)
  | p :: io, ad, st, pre, hl, h1, h2, h3 => by
    obtain ⟨t, rfl⟩ := pre
    cases st with
    | nil => simp at hl
    | cons c st =>
      obtain ⟨o, rfl⟩ := h1 0 c (by simp) rfl
      have q := h3 0 (.io o) p rfl rfl
      refine .cons q (outs_ok (ad := io ++ t) ⟨t, rfl⟩ (by simpa using hl) (fun n c hn e => h1 (n + 1) c (by simpa using hn) e) (fun n o e => by have := h2 (n + 1) o e; simpa using this) fun n c p e1 e2 => h3 (n + 1) c p e1 e2)
theorem SR.post {F : Addr → Prop} {H : Hp} {io : List Addr} {ω : Wd} {H' : Hp} {σ : L2.St} {sl : Sls} {st : Sto} {pr : List Addr} (dm : ∀ a, F a → H a ≠ none) (hio : ∀ p ∈ io, ¬ F p) (s : SR ⟨K, H, F, io, ct, pr⟩ ω H' σ sl st) : Post K F H io ω.F H' (outs st) where
  fr := fun a h => ⟨s.oldF a h, by
    cases e : H a with
    | none => exact absurd e (dm a h)
    | some o => exact s.keep a o e fun z => hio a z h⟩
  keep := s.keep
  new := s.newF
  dom := s.dom
  out := outs_ok s.iop s.adl s.ioc s.ioc2 s.cell
theorem ArgsR.nf {F : Addr → Prop} {H : Hp} : ∀ {vs : List V} {as : List Arg} {io : List Addr}, ArgsR K F H vs as io → ∀ p ∈ io, ¬ F p
  | _, _, _, .nil, p, h => by cases h
  | _, _, _, .val _ r, p, h => r.nf p h
  | _, _, _, .io hf _ r, p, h => by
    rcases List.mem_cons.mp h with h | h
    · subst h; exact hf
    · exact r.nf p h
/-- as FnOk, where no repr is under way (so repr of what is nested is known) -/
structure FnG (P : Program) (w : World) (K : PySem.W.Frag) (mg : Str → Option Value) (base : Heap) (C : CXT) (k : Nat) (f : Addr) (fd : FuncData) (ps : List Str) (sp : Sp) : Prop where
  len : ∀ vs H Q E, sp vs H Q E → vs.length = ps.length
  run : ∀ (A : Around) (outer : List Env) (s : Shared) (H : Hp) (args : Args) (us : List Value) (vs : List V) (Q : VK) (E : XK), Room k A → A.guards = some [] → Env0 P w K mg base A outer s H → BindsTo s fd args (ps.zip us) → Vals vs us →
    sp vs H Q E → codeAny (model P w) A (.call (.ref f) args) (CR C outer P w H s Q E) s
theorem FnG.mono {P : Program} {w : World} {mg : Str → Option Value} {base : Heap} {C : CXT} {j k : Nat} {f : Addr} {fd : FuncData} {ps : List Str} {sp : Sp} (F : FnG P w K mg base C j f fd ps sp) (h : j ≤ k) : FnG P w K mg base C k f fd ps sp :=
  ⟨F.len, fun A outer s H args us vs Q E hr => F.run A outer s H args us vs Q E (hr.mono h)⟩
/-- THE RULE for a def -/
theorem def_ok {P : Program} {w : World} {mg : Str → Option Value} {base : Heap} {x qual : Str} {st : Stmt} {f : Addr} {fd : FuncData} {N ps : List Str} {k : Nat} {g : FS} (F : Fun K x qual st f fd) (S : FnScope N ps (defScope st))
    (hbody : ∀ (cdv : Value) (A : Around) (outer : List Env) (s : Shared) (H : Hp) (E : XK), Room k (A.deeper (envOfC qual (defScope st) s.heap.objs.size f cdv)) → A.guards = some [] →
      SSs (cxOf (L2.CX P w) P w K mg base N qual (defScope st) f cdv A outer s H E) ct (fun cls d _ H => E cls d H) (defBody st) g) :
    FnG P w K mg base (L2.CX P w) (k + 1) f fd ps (spOf K ct ps.length (runD N.length g)) := by
  obtain ⟨oc, od, kV, doc, pm, an, cdv, ctv, osl, rfl, lk, hcd⟩ := F.ex
  refine ⟨fun vs H Q E ⟨_, _, _, h, _⟩ => h, ?_⟩
  intro A outer s H cargs us vs Q E room quiet e0 binds rel ⟨F0, args, io, hl, ra, dm, nd, q⟩
  have kin : K.In s.heap := e0.mod.kin.keeps fun b o e => (e0.bs b o e).1
  refine codeAny_call_function room.depth (kin _ _ lk) rfl S.co S.gen rfl (PySem.W.codeRec_of kin hcd) (binds _ _ _ _ ?_)
  have kinds : ∀ y ∈ ps.zip us, (defScope st).names.lookup y.1 = some .local ∨ ((defScope st).names.lookup y.1 = some .cell ∧ ((cellsFrom (s.heap.objs.size + 1) (defScope st).names []).lookup y.1).isSome = true) := by
    intro y hy
    rcases S.par y.1 (List.of_mem_zip hy).1 with loc | cel
    · exact Or.inl loc
    · exact Or.inr ⟨cel, PySem.W.cellsFrom_some _ _ _ (Or.inl cel)⟩
  refine wpAny_newFunctionEnv_cells S.kind kinds fun env he s1 x => ?_
  subst he
  have nolim : s.heap.NoLimit := e0.mod.nolimit.keeps fun b o e => (e0.bs b o e).1
  refine ⟨nolim.keeps x.toInCall.keep, codeAny_func ?_⟩
  have I := inv_start (CX := L2.CX P w) (E := E) S room.hd e0 hl rel x
  have hpl : ps.length ≤ N.length := by have := congrArg List.length S.pre; rw [List.length_take] at this; omega
  have body := (hbody cdv A outer s H E (room.deeper _) quiet ⟨K, H, F0, io, ct, []⟩ rfl rfl (slots0 args 0 ++ List.replicate (N.length - args.length) .non) (cells0 args)).run [] s1 (L2.start N vs) H { nx := fun _ H' => Q .non H', rt := Q } I
    ⟨⟨F0, io⟩, SR.start ra dm nd (by rw [← ra.length, hl]; exact hpl), ?_⟩
  · refine wpAny_mono body (fun fl s' hs => ?_) fun e s' hs => hs
    cases fl with
    | brk => obtain ⟨_, _, _, no⟩ := hs; exact no.elim
    | cont => obtain ⟨_, _, _, no⟩ := hs; exact no.elim
    | next =>
      obtain ⟨σ', H', J, done⟩ := hs
      exact ⟨V.non, H', J.os, J.bare, J.base, J.hok, rfl, done⟩
    | ret u =>
      obtain ⟨v, σ', H', J, rv, done⟩ := hs
      exact ⟨v, H', J.os, J.bare, J.base, J.hok, rv, done⟩
  · unfold runD endD at q
    cases hg : g (slots0 args 0 ++ List.replicate (N.length - args.length) .non) (cells0 args) with
    | fail => rw [hg] at q; exact q
    | bk _ _ => rw [hg] at q; exact q.elim
    | ct _ _ => rw [hg] at q; exact q.elim
    | nx sl st => rw [hg] at q; exact fun σ' ω' H' e s' => q .non ω'.F H' (SR.post dm ra.nf s') .non
    | rt d st => rw [hg] at q; exact fun v σ' ω' H' sl e s' r => q v ω'.F H' (SR.post dm ra.nf s') r
    | rn o st =>
      rw [hg] at q
      exact fun v σ' ω' H' sl e s' ⟨p, ev, _, ⟨h0, _⟩, nf, mo⟩ => by
        rw [ev]
        exact q p ω'.F H' (SR.post dm ra.nf s') h0 nf mo
    | exc x sl st =>
      rw [hg] at q
      exact fun cls d σ' ω' H' e s' ⟨C, h1, h2, h3, h4⟩ => q cls d ω'.F H' C (SR.post dm ra.nf s') h1 h2 h3 h4
end

/-! ### a call -/
def fixM : List Bool → List EV → Sto → Option (List (PyData ⊕ Nat) × Sto)
  | [], [], st => some ([], st)
  | false :: ms, ev :: evs, st => match ev.fix st with
    | none => none
    | some (d, st1) => match fixM ms evs st1 with
      | none => none
      | some (r, st2) => some (.inl d :: r, st2)
  | true :: ms, .bor n :: evs, st => match fixM ms evs st with
    | none => none
    | some (r, st2) => some (.inr n :: r, st2)
  | _, _, _ => none
def argsM (st : Sto) : List (PyData ⊕ Nat) → Option (List Arg × List Nat)
  | [] => some ([], [])
  | .inl d :: r => match argsM st r with
    | none => none
    | some (as, ns) => some (.val d :: as, ns)
  | .inr n :: r => match st[n]?, argsM st r with
    | some (.live o), some (as, ns) => some (.io o :: as, n :: ns)
    | some (.io o), some (as, ns) => some (.io o :: as, n :: ns)
    | _, _ => none
def putC (c : Cell) (o : MO) : Cell := match c with
  | .io _ => .io o
  | _ => .live o
def putAll : Sto → List Nat → List MO → Sto
  | st, n :: ns, o :: os => putAll (match st[n]? with
    | some c => st.set n (putC c o)
    | none => st) ns os
  | st, _, _ => st
def eCall (D : FD) (ms : List Bool) (f : FA) : FE := fun sl st => match f sl st with
  | .fail => .fail
  | .exc x st1 => .exc x st1
  | .ok evs st1 => match fixM ms evs st1 with
    | none => .fail
    | some (rs, st2) => match argsM st2 rs with
      | none => .fail
      | some (as, ns) => if ns.Nodup then (match D as with
        | .fail => .fail
        | .rt d os => if os.length = ns.length then .ok (.val d) (putAll st2 ns os) else .fail
        | .rn o os => if os.length = ns.length then .ok (.new o) (putAll st2 ns os) else .fail
        | .exc x os => if os.length = ns.length then .exc x (putAll st2 ns os) else .fail) else .fail
section
variable {B : Bs} {σ : L2.St} {sl : Sls}
/-- arguments made data, or things of the store -/
def ARel (K : PySem.W.Frag) (ω : Wd) (H : Hp) : V → PyData ⊕ Nat → Prop
  | v, .inl d => Rp K ω.F H v d
  | v, .inr n => ∃ p, ω.ad[n]? = some p ∧ v = .ref p
theorem ARel.up {K : PySem.W.Frag} {ω ω1 : Wd} {H H1 : Hp} (e : Ext B ω H ω1 H1) : ∀ {v : V} {r : PyData ⊕ Nat}, ARel K ω H v r → ARel K ω1 H1 v r
  | _, .inl d, h => Rp.up (d := d) h e.fr
  | _, .inr n, ⟨p, h, q⟩ => ⟨p, by
      obtain ⟨t, ht⟩ := e.ad
      rw [← ht, List.getElem?_append_left (List.getElem?_eq_some_iff.mp h).1]
      exact h, q⟩
theorem fixM_ok {H : Hp} : ∀ {ms : List Bool} {evs : List EV} {vs : List V} {ω : Wd} {st st' : Sto} {rs : List (PyData ⊕ Nat)}, SR B ω H σ sl st → VRs B ω H vs (evs.map EV.soft) → fixM ms (evs.map EV.soft) st = some (rs, st') →
    ∃ ω', Ext B ω H ω' H ∧ SR B ω' H σ sl st' ∧ Paired (ARel B.K ω' H) vs rs
  | [], [], _, ω, st, st', rs, s, .nil, e => by
    cases e
    exact ⟨ω, .refl, s, .nil⟩
  | [], ev :: evs, _, ω, st, st', rs, s, _, e => by
    simp [fixM] at e
  | true :: ms, [], _, ω, st, st', rs, s, _, e => by
    simp [fixM] at e
  | false :: ms, [], _, ω, st, st', rs, s, _, e => by
    simp [fixM] at e
  | false :: ms, ev :: evs, _, ω, st, st', rs, s, .cons (a := v) (l₁ := vs) h r, e => by
    have e' : fixM (false :: ms) (ev.soft :: evs.map EV.soft) st = some (rs, st') := e
    unfold fixM at e'
    cases h1 : ev.soft.fix st with
    | none => simp [h1] at e'
    | some p =>
      obtain ⟨d, st1⟩ := p
      simp only [h1] at e'
      cases h2 : fixM ms (evs.map EV.soft) st1 with
      | none => simp [h2] at e'
      | some p2 =>
        obtain ⟨rs2, st2⟩ := p2
        simp only [h2, Option.some.injEq, Prod.mk.injEq] at e'
        obtain ⟨rfl, rfl⟩ := e'
        obtain ⟨ω1, x1, s1, r1⟩ := VR.fix s h h1
        obtain ⟨ω2, x2, s2, r2⟩ := fixM_ok s1 (VRs.up x1 r) h2
        exact ⟨ω2, x1.trans x2, s2, .cons (r1.up x2.fr) r2⟩
  | true :: ms, ev :: evs, _, ω, st, st', rs, s, .cons (a := v) (l₁ := vs) h r, e => by
    have e' : fixM (true :: ms) (ev.soft :: evs.map EV.soft) st = some (rs, st') := e
    cases ev with
    | val d => simp [EV.soft, fixM] at e'
    | new o => simp [EV.soft, fixM] at e'
    | bor n =>
      have h' : VR B ω H v (.bor n) := h
      have e2 : fixM (true :: ms) (.bor n :: evs.map EV.soft) st = some (rs, st') := e'
      unfold fixM at e2
      cases h2 : fixM ms (evs.map EV.soft) st with
      | none => simp [h2] at e2
      | some p2 =>
        obtain ⟨rs2, st2⟩ := p2
        simp only [h2, Option.some.injEq, Prod.mk.injEq] at e2
        obtain ⟨rfl, rfl⟩ := e2
        obtain ⟨ω2, x2, s2, r2⟩ := fixM_ok s r h2
        have a : ARel B.K ω H v (.inr n) := h'
        exact ⟨ω2, x2, s2, .cons (a.up x2) r2⟩
theorem argsM_ok {H : Hp} {ω : Wd} {st : Sto} (s : SR B ω H σ sl st) : ∀ {vs : List V} {rs : List (PyData ⊕ Nat)} {as : List Arg} {ns : List Nat}, Paired (ARel B.K ω H) vs rs → argsM st rs = some (as, ns) →
    ∃ io, ArgsR B.K ω.F H vs as io ∧ Paired (fun n p => ω.ad[n]? = some p ∧ ∃ c, st[n]? = some c ∧ ∀ d, c ≠ .fz d) ns io
  | _, [], as, ns, .nil, e => by
    cases e
    exact ⟨[], .nil, .nil⟩
  | _, .inl d :: rs, as, ns, .cons (a := v) (l₁ := vs) h r, e => by
    unfold argsM at e
    cases h1 : argsM st rs with
    | none => simp [h1] at e
    | some p =>
      obtain ⟨as2, ns2⟩ := p
      simp only [h1, Option.some.injEq, Prod.mk.injEq] at e
      obtain ⟨rfl, rfl⟩ := e
      obtain ⟨io, q1, q2⟩ := argsM_ok s r h1
      exact ⟨io, .val h q1, q2⟩
  | _, .inr n :: rs, as, ns, .cons (a := v) (l₁ := vs) h r, e => by
    obtain ⟨p, hp, rfl⟩ := h
    unfold argsM at e
    cases h1 : argsM st rs with
    | none =>
      rw [h1] at e
      split at e <;> rename_i h2 h3 <;> first | (cases h3) | (cases e)
    | some pr =>
      obtain ⟨as2, ns2⟩ := pr
      obtain ⟨io, q1, q2⟩ := argsM_ok s r h1
      rw [h1] at e
      cases hc : st[n]? with
      | none => rw [hc] at e; cases e
      | some c =>
        rw [hc] at e
        have q := s.cell n c p hc hp
        cases c with
        | fz d => cases e
        | live o =>
          cases e
          exact ⟨p :: io, .io q.1 q.2 q1, .cons ⟨hp, _, hc, fun d z => nomatch z⟩ q2⟩
        | io o =>
          cases e
          exact ⟨p :: io, .io q.1 q.2 q1, .cons ⟨hp, _, hc, fun d z => nomatch z⟩ q2⟩
theorem putAll_len : ∀ (st : Sto) (ns : List Nat) (os : List MO), (putAll st ns os).length = st.length
  | st, [], os => by unfold putAll; rfl
  | st, n :: ns, [] => by unfold putAll; rfl
  | st, n :: ns, o :: os => by
    unfold putAll
    rw [putAll_len]
    split
    · rw [List.length_set]
    · rfl
theorem putAll_out {m : Nat} : ∀ {st : Sto} {ns : List Nat} {os : List MO}, m ∉ ns → (putAll st ns os)[m]? = st[m]?
  | st, [], os, _ => by unfold putAll; rfl
  | st, n :: ns, [], _ => by unfold putAll; rfl
  | st, n :: ns, o :: os, h => by
    unfold putAll
    rw [putAll_out (fun z => h (List.mem_cons_of_mem _ z))]
    split
    · exact List.getElem?_set_ne fun z => h (by rw [← z]; exact List.mem_cons_self)
    · rfl
/-- behind a call, cell by cell -/
theorem putAll_cells {K : PySem.W.Frag} {F F' : Addr → Prop} {H H' : Hp} {ad : List Addr} : ∀ {ns : List Nat} {io : List Addr} {os : List MO} {st : Sto}, ns.Nodup → Paired (fun n p => ad[n]? = some p ∧ ∃ c, st[n]? = some c ∧ ∀ d, c ≠ .fz d) ns io → IoR K F' H' io os →
    ∀ (n : Nat) (c : Cell) (p : Addr), (putAll st ns os)[n]? = some c → ad[n]? = some p → (n ∉ ns ∧ st[n]? = some c) ∨ ((∃ o, c = .live o ∧ ¬ F' p ∧ MOR K F' H' p o ∧ ∃ o', st[n]? = some (.live o')) ∨ (∃ o, c = .io o ∧ ¬ F' p ∧ MOR K F' H' p o ∧ ∃ o', st[n]? = some (.io o')))
  | [], _, _, st, _, .nil, .nil, n, c, p, h1, h2 => .inl ⟨by simp, h1⟩
  | m :: ns, q :: io, o :: os, st, nd, .cons ⟨g1, cm, g2, g3⟩ r, .cons a b, n, c, p, h1, h2 => by
    have nd' := List.nodup_cons.mp nd
    unfold putAll at h1
    rw [g2] at h1
    dsimp only at h1
    by_cases hn : n = m
    · subst hn
      rw [putAll_out nd'.1, List.getElem?_set_self (List.getElem?_eq_some_iff.mp g2).1] at h1
      cases h1
      rw [g1] at h2
      cases h2
      refine .inr ?_
      cases cm with
      | fz d => exact absurd rfl (g3 d)
      | live o' => exact .inl ⟨o, rfl, a.1, a.2, o', g2⟩
      | io o' => exact .inr ⟨o, rfl, a.1, a.2, o', g2⟩
    · have r' : Paired (fun n p => ad[n]? = some p ∧ ∃ c, (st.set m (putC cm o))[n]? = some c ∧ ∀ d, c ≠ .fz d) ns io := by
        have go : ∀ {ns : List Nat} {io : List Addr}, m ∉ ns → Paired (fun n p => ad[n]? = some p ∧ ∃ c, st[n]? = some c ∧ ∀ d, c ≠ .fz d) ns io → Paired (fun n p => ad[n]? = some p ∧ ∃ c, (st.set m (putC cm o))[n]? = some c ∧ ∀ d, c ≠ .fz d) ns io := by
          intro ns io hm hr
          induction hr with
          | nil => exact .nil
          | cons h t ih =>
            obtain ⟨k1, c1, k2, k3⟩ := h
            refine .cons ⟨k1, c1, ?_, k3⟩ (ih fun z => hm (List.mem_cons_of_mem _ z))
            rw [List.getElem?_set_ne fun z => hm (by rw [z]; exact List.mem_cons_self)]
            exact k2
        exact go nd'.1 r
      have hs : (st.set m (putC cm o))[n]? = st[n]? := List.getElem?_set_ne fun z => hn z.symm
      rcases putAll_cells (F := F) (H := H) nd'.2 r' b n c p h1 h2 with ⟨z1, z2⟩ | ⟨o1, z1, z2, z3, o2, z4⟩ | ⟨o1, z1, z2, z3, o2, z4⟩
      · exact .inl ⟨fun z => (List.mem_cons.mp z).elim hn z1, by rw [← hs]; exact z2⟩
      · exact .inr (.inl ⟨o1, z1, z2, z3, o2, by rw [← hs]; exact z4⟩)
      · exact .inr (.inr ⟨o1, z1, z2, z3, o2, by rw [← hs]; exact z4⟩)
theorem paired_mem {α β : Type} {R : α → β → Prop} : ∀ {as : List α} {bs : List β}, Paired R as bs → ∀ b ∈ bs, ∃ a ∈ as, R a b
  | _, _, .nil, b, h => by cases h
  | _, _, .cons r t, b, h => by
    rcases List.mem_cons.mp h with e | h
    · subst e; exact ⟨_, List.mem_cons_self, r⟩
    · obtain ⟨a, h1, h2⟩ := paired_mem t b h
      exact ⟨a, List.mem_cons_of_mem _ h1, h2⟩
theorem paired_len {α β : Type} {R : α → β → Prop} : ∀ {as : List α} {bs : List β}, Paired R as bs → as.length = bs.length
  | _, _, .nil => rfl
  | _, _, .cons r t => congrArg (· + 1) (paired_len t)
theorem SR.called {ω : Wd} {H H' : Hp} {F' : Addr → Prop} {st : Sto} {ns : List Nat} {io : List Addr} {os : List MO} (s : SR B ω H σ sl st) (nd : ns.Nodup) (pn : Paired (fun n p => ω.ad[n]? = some p ∧ ∃ c, st[n]? = some c ∧ ∀ d, c ≠ .fz d) ns io) (po : Post B.K ω.F H io F' H' os) :
    SR B ⟨F', ω.ad⟩ H' σ sl (putAll st ns os) ∧ Ext B ω H ⟨F', ω.ad⟩ H' := by
  have ioad : ∀ p ∈ io, p ∈ ω.ad := fun p hp => by
    obtain ⟨n, _, h, _⟩ := paired_mem pn p hp
    exact List.mem_of_getElem? h
  have kp : ∀ p, H p ≠ none → p ∉ io → H' p = H p := fun p h hi => by
    cases e : H p with
    | none => exact absurd e h
    | some o => exact po.keep p o e hi
  have fresh0 : ∀ a, H a = none → B.H0 a = none := fun a h => by
    cases e : B.H0 a with
    | none => rfl
    | some o =>
      by_cases hi : a ∈ B.io
      · exact absurd h (s.there a (s.iop.subset hi))
      · rw [s.keep a o e hi] at h; cases h
  have key := putAll_cells (K := B.K) (F := ω.F) (F' := F') (H := H) (H' := H') (ad := ω.ad) nd pn po.out
  have prk : ∀ p ∈ B.pr, H' p = H p := fun p hp => kp p (s.prH p hp) fun z => s.prA p hp (ioad p z)
  refine ⟨⟨s.len, po.dom, fun a o h hi => ?_, fun a h => ?_, fun a h => (po.fr a (s.oldF a h)).1, by rw [putAll_len]; exact s.adl, s.nd, s.iop, s.adn, fun n c hn h => ?_, fun n o h => ?_, fun p hp => ?_, fun p hp h => ?_, s.prA, fun p hp => by rw [prk p hp]; exact s.prH p hp, fun i t h => (s.slot i t h).up po.fr (List.prefix_refl _), fun n c p h1 h2 => ?_⟩, ⟨po.fr, List.prefix_refl _, prk⟩⟩
  · have e := s.keep a o h hi
    refine po.keep a o e fun z => ?_
    rcases s.adn a (ioad a z) with q | q
    · exact hi q
    · rw [h] at q; cases q
  · rcases po.new a h with q | q
    · exact s.newF a q
    · exact .inr (fresh0 a q)
  · obtain ⟨p, hp⟩ : ∃ p, ω.ad[n]? = some p := by
      have : n < ω.ad.length := Nat.lt_of_lt_of_le hn s.iop.length_le
      exact ⟨_, List.getElem?_eq_getElem this⟩
    rcases key n c p h hp with ⟨_, z⟩ | ⟨o, z, _, _, o', z4⟩ | ⟨o, z, _⟩
    · exact s.ioc n c hn z
    · obtain ⟨o2, z5⟩ := s.ioc n _ hn z4
      cases z5
    · exact ⟨o, z⟩
  · obtain ⟨p, hp⟩ : ∃ p, ω.ad[n]? = some p := by
      have h1 := (List.getElem?_eq_some_iff.mp h).1
      rw [putAll_len, ← s.adl] at h1
      exact ⟨_, List.getElem?_eq_getElem h1⟩
    rcases key n _ p h hp with ⟨_, z⟩ | ⟨o, z, _⟩ | ⟨o, z, _, _, o', z4⟩
    · exact s.ioc2 n o z
    · cases z
    · exact s.ioc2 n o' z4
  · by_cases hi : p ∈ io
    · obtain ⟨o, _, h⟩ : ∃ o, True ∧ MOR B.K F' H' p o := by
        have go : ∀ {io : List Addr} {os : List MO}, IoR B.K F' H' io os → p ∈ io → ∃ o, True ∧ MOR B.K F' H' p o := by
          intro io os h hm
          induction h with
          | nil => cases hm
          | cons a t ih =>
            rcases List.mem_cons.mp hm with e | hm
            · subst e; exact ⟨_, trivial, a.2⟩
            · exact ih hm
        exact go po.out hi
      exact h.some
    · rw [kp p (s.there p hp) hi]; exact s.there p hp
  · rcases po.new p h with q | q
    · exact s.prF p hp q
    · exact s.prH p hp q
  · rcases key n c p h1 h2 with ⟨z1, z2⟩ | ⟨o, rfl, z2, z3, _⟩ | ⟨o, rfl, z2, z3, _⟩
    · refine (s.cell n c p z2 h2).up po.fr fun h3 h4 => ⟨kp p h3 fun z => ?_, fun z => (po.new p z).elim h4 h3⟩
      obtain ⟨m, hm, q1, _⟩ := paired_mem pn p z
      have := (List.getElem?_inj (List.getElem?_eq_some_iff.mp q1).1 s.nd).mp (q1.trans h2.symm)
      subst this
      exact z1 hm
    · exact ⟨z2, z3⟩
    · exact ⟨z2, z3⟩
end
section
variable {X : Cx} {ct : Gx} {W : WX}
theorem call_read {B : Bs} (hB : B.K = X.K) (hc : B.ct = ct) {D : FD} {ms : List Bool} {fa : FA} {n : Nat} (hn : ms.length = n) (hs : SoftA fa) {sl : Sls} {st : Sto} {σ : L2.St} {H : Hp} {Q : VK} {ω : Wd} {t : TA} (s : SR B ω H σ sl st)
    (ht : ∀ Q', OutA B W σ ω H sl (fa sl st) Q' → t σ H Q') (q : OutE B W σ ω H sl (eCall D ms fa sl st) Q) : t σ H fun vs H1 => spOf X.K ct n D vs H1 Q (fun cls d H' => W cls d σ H') := by
  refine ht _ ?_
  unfold eCall at q
  cases hf : fa sl st with
  | fail => rw [hf] at q; exact q
  | exc x st1 => rw [hf] at q; exact q
  | ok evs st1 =>
    rw [hf] at q
    dsimp only at q
    intro vs ω1 H1 x1 s1 hv
    have hm := hs _ _ _ _ hf
    cases h1 : fixM ms evs st1 with
    | none => rw [h1] at q; exact q.elim
    | some p1 =>
      obtain ⟨rs, st2⟩ := p1
      rw [h1] at q
      dsimp only at q
      obtain ⟨ω2, x2, s2, ar⟩ := fixM_ok (ms := ms) (evs := evs) (ω := ω1) s1 (by rw [hm]; exact hv) (by rw [hm]; exact h1)
      cases h2 : argsM st2 rs with
      | none => rw [h2] at q; exact q.elim
      | some p2 =>
        obtain ⟨as, ns⟩ := p2
        rw [h2] at q
        dsimp only at q
        by_cases nd : ns.Nodup
        · rw [if_pos nd] at q
          obtain ⟨io, r1, r2⟩ := argsM_ok s2 ar h2
          have hlen : vs.length = n := by
            have go : ∀ {ms : List Bool} {evs : List EV} {st st' : Sto} {rs : List (PyData ⊕ Nat)}, fixM ms evs st = some (rs, st') → ms.length = rs.length := by
              intro ms
              induction ms with
              | nil =>
                intro evs st st' rs e
                cases evs with
                | nil => cases e; rfl
                | cons _ _ => simp [fixM] at e
              | cons m ms ih =>
                intro evs st st' rs e
                cases evs with
                | nil => cases m <;> simp [fixM] at e
                | cons ev evs =>
                  cases m with
                  | false =>
                    unfold fixM at e
                    split at e
                    · cases e
                    · split at e
                      · cases e
                      · rename_i h
                        cases e
                        exact congrArg (· + 1) (ih h)
                  | true =>
                    cases ev with
                    | val _ => simp [fixM] at e
                    | new _ => simp [fixM] at e
                    | bor k =>
                      unfold fixM at e
                      split at e
                      · cases e
                      · rename_i h
                        cases e
                        exact congrArg (· + 1) (ih h)
            rw [paired_len ar, ← go h1, hn]
          have ioN : io.Nodup := by
            have go : ∀ {ns : List Nat} {io : List Addr}, ns.Nodup → Paired (fun n p => ω2.ad[n]? = some p ∧ ∃ c, st2[n]? = some c ∧ ∀ d, c ≠ .fz d) ns io → io.Nodup := by
              intro ns io hnd h
              induction h with
              | nil => exact List.nodup_nil
              | cons a t ih =>
                have hnd' := List.nodup_cons.mp hnd
                refine List.nodup_cons.mpr ⟨fun hm => ?_, ih hnd'.2⟩
                obtain ⟨m, hm1, hm2, _⟩ := paired_mem t _ hm
                have := (List.getElem?_inj (List.getElem?_eq_some_iff.mp hm2).1 s2.nd).mp (hm2.trans a.1.symm)
                subst this
                exact hnd'.1 hm1
            exact go nd r2
          refine ⟨ω2.F, as, io, hlen, by rw [← hB]; exact r1, s2.dom, ioN, ?_⟩
          have x12 := x1.trans x2
          cases hD : D as with
          | fail => rw [hD] at q; exact q
          | rt d os =>
            rw [hD] at q
            dsimp only at q
            intro v F' H' po rv
            by_cases hl : os.length = ns.length
            · rw [if_pos hl] at q
              rw [← hB] at po rv
              obtain ⟨s3, x3⟩ := s2.called nd r2 po
              exact q v _ H' (x12.trans x3) s3 rv
            · rw [if_neg hl] at q; exact q.elim
          | rn o os =>
            rw [hD] at q
            dsimp only at q
            intro p F' H' po hn hf mo
            by_cases hl : os.length = ns.length
            · rw [if_pos hl] at q
              rw [← hB] at po mo
              obtain ⟨s3, x3⟩ := s2.called nd r2 po
              obtain ⟨f1, f2, _⟩ := s2.fresh hn
              exact q (.ref p) _ H' (x12.trans x3) s3 ⟨p, rfl, f1, f2, hf, mo⟩
            · rw [if_neg hl] at q; exact q.elim
          | exc x os =>
            rw [hD] at q
            dsimp only at q
            intro cls dd F' H' C po h1 h2 h3 h4
            by_cases hl : os.length = ns.length
            · rw [if_pos hl] at q
              rw [← hB] at po
              obtain ⟨s3, x3⟩ := s2.called nd r2 po
              exact q cls dd _ H' (x12.trans x3) s3 ⟨C, by rw [hc]; exact h1, h2, h3, h4⟩
            · rw [if_neg hl] at q; exact q.elim
        · rw [if_neg nd] at q; exact q.elim
/-- f(a, ..) of a def of one's own, by its function D; ms: which arguments are things that it may change -/
theorem se_call {k n : Nat} {f : Addr} {fd : FuncData} {ps : List Str} {D : FD} {x : Str} {p pos : Pos} {e : Expr} {es : List Expr} {fa : FA} (ms : List Bool) (F : FnG X.prog X.w X.K X.mg X.base (L2.CX X.prog X.w) k f fd ps (spOf X.K ct n D)) (hn : ms.length = n) (hr : Room k X.A) (quiet : X.A.guards = some []) (hg : Gl X x) (hm : X.mg x = some (.ref f))
    (hk : PySem.W.keepIn X.K (.ref f) = true) (hb : Binds X.K fd ps []) (tk : Takes X W) (ha : SA X ct W (e :: es) fa) (hs : SoftA fa) (hdb : (x == ("__debug__" : Str)) = false := by decide)
    (he : starEach (e :: es) X.env = (false, eval e X.env) :: starEach es X.env := by rfl) (hpl : (backTo pos (starEach es X.env)).any (·.1) = false := by rfl) : SE X ct W (.Call (.Name x p) (e :: es) [] pos) (eCall D ms fa) := by
  intro B hB hc sl st
  refine ⟨fun pins s σ H Q I ⟨ω, sr, q⟩ => ?_⟩
  refine wpAny_Call_Name_kw (ld_glob I hg hm ?_ hdb)
  have read := call_read (t := fun σ H Q => ∃ ω, SR B ω H σ sl st ∧ OutA B W σ ω H sl (fa sl st) Q) hB hc hn hs sr (fun Q' h => ⟨ω, sr, h⟩) q
  refine PySem.W.callWith_K (h₀ := X.base) I.ok.mod.kin hk (thn ((ha B hB hc sl st).run pos pins s σ H _ I read) fun us s1 ⟨vs, H1, I1, r, q1⟩ => ⟨I1.kIn, ?_⟩) he hpl
  have bound := hb s1 us I1.kIn (by rw [List.append_nil, ← r.length]; exact F.len _ _ _ _ q1)
  rw [List.append_nil] at bound
  refine wpAny_call (codeAny_mono (F.run X.A X.stack s1 H1 ⟨us, []⟩ us vs Q _ hr quiet I1.env0 bound r q1) fun res s2 h2 => ?_)
  cases res with
  | error e => exact passAt tk σ pins H1 s1 e s2 I1 h2
  | ok fl =>
    cases fl with
    | ret u => exact I1.after h2
    | next => exact False.elim h2
    | brk => exact False.elim h2
    | cont => exact False.elim h2
end
end Px
namespace Px
open PySem PySem.Spec PyProof.Rows L2

section
variable {X : Cx} {ct : Gx} {W : WX}
/-! ### list comprehensions -/
def wipeS (sl : Sls) : List Nat → Sls
  | [] => sl
  | v :: vs => (wipeS sl vs).set v .non
theorem SR.unset {B : Bs} {ω : Wd} {H : Hp} {σ : L2.St} {sl : Sls} {st : Sto} (s : SR B ω H σ sl st) (i : Nat) : SR B ω H (σ.set i none) (sl.set i .non) st where
  len := by rw [List.length_set, List.length_set]; exact s.len
  dom := s.dom
  keep := s.keep
  newF := s.newF
  oldF := s.oldF
  adl := s.adl
  nd := s.nd
  iop := s.iop
  adn := s.adn
  ioc := s.ioc
  ioc2 := s.ioc2
  there := s.there
  prF := s.prF
  prA := s.prA
  prH := s.prH
  slot := fun j u h => by
    by_cases e : i = j
    · subst e
      have hl : i < sl.length := by
        have := (List.getElem?_eq_some_iff.mp h).1
        rw [List.length_set] at this
        exact this
      rw [List.getElem?_set_self hl] at h
      cases h
      exact trivial
    · rw [List.getElem?_set_ne e] at h
      rw [List.getElem?_set_ne e]
      exact s.slot j u h
  cell := s.cell
theorem SR.wipe {B : Bs} {ω : Wd} {H : Hp} {σ : L2.St} {sl : Sls} {st : Sto} (s : SR B ω H σ sl st) : ∀ vs : List Nat, SR B ω H (L2.wipe σ vs) (wipeS sl vs) st
  | [] => s
  | v :: vs => (s.wipe vs).unset v
/-- other slots, that are known to stand -/
theorem SR.slots {B : Bs} {ω ω' : Wd} {H H' : Hp} {σ σ' : L2.St} {sl sl' : Sls} {st st' : Sto} (s : SR B ω H σ sl st) (e : Ext B ω H ω' H') (t : SR B ω' H' σ' sl' st') : SR B ω' H' σ sl st' where
  len := s.len
  dom := t.dom
  keep := t.keep
  newF := t.newF
  oldF := t.oldF
  adl := t.adl
  nd := t.nd
  iop := t.iop
  adn := t.adn
  ioc := t.ioc
  ioc2 := t.ioc2
  there := t.there
  prF := t.prF
  prA := t.prA
  prH := t.prH
  slot := fun i u h => (s.slot i u h).up e.fr e.ad
  cell := t.cell
def Bs.guard (B : Bs) (p : Addr) : Bs := { B with pr := p :: B.pr }
theorem SR.guard {B : Bs} {ω : Wd} {H : Hp} {σ : L2.St} {sl : Sls} {st : Sto} {p : Addr} (s : SR B ω H σ sl st) (h1 : ¬ ω.F p) (h2 : p ∉ ω.ad) (h3 : H p ≠ none) : SR (B.guard p) ω H σ sl st :=
  ⟨s.len, s.dom, s.keep, s.newF, s.oldF, s.adl, s.nd, s.iop, s.adn, s.ioc, s.ioc2, s.there, fun q hq => (List.mem_cons.mp hq).elim (fun e => by rw [e]; exact h1) (s.prF q), fun q hq => (List.mem_cons.mp hq).elim (fun e => by rw [e]; exact h2) (s.prA q),
    fun q hq => (List.mem_cons.mp hq).elim (fun e => by rw [e]; exact h3) (s.prH q), s.slot, s.cell⟩
theorem SR.unguard {B : Bs} {ω : Wd} {H : Hp} {σ : L2.St} {sl : Sls} {st : Sto} {p : Addr} (s : SR (B.guard p) ω H σ sl st) : SR B ω H σ sl st ∧ ¬ ω.F p ∧ p ∉ ω.ad ∧ H p ≠ none :=
  ⟨⟨s.len, s.dom, s.keep, s.newF, s.oldF, s.adl, s.nd, s.iop, s.adn, s.ioc, s.ioc2, s.there, fun q hq => s.prF q (List.mem_cons_of_mem _ hq), fun q hq => s.prA q (List.mem_cons_of_mem _ hq), fun q hq => s.prH q (List.mem_cons_of_mem _ hq), s.slot, s.cell⟩,
    s.prF p List.mem_cons_self, s.prA p List.mem_cons_self, s.prH p List.mem_cons_self⟩
theorem Ext.unguard {B : Bs} {ω ω' : Wd} {H H' : Hp} {p : Addr} (e : Ext (B.guard p) ω H ω' H') : Ext B ω H ω' H' ∧ H' p = H p := ⟨⟨e.fr, e.ad, fun q hq => e.pr q (List.mem_cons_of_mem _ hq)⟩, e.pr p List.mem_cons_self⟩
/-- the thing under way is written: nothing else knows it -/
theorem SR.under {B : Bs} {ω : Wd} {H : Hp} {σ : L2.St} {sl : Sls} {st : Sto} {p : Addr} {o : HO} (s : SR B ω H σ sl st) (h1 : ¬ ω.F p) (h2 : p ∉ ω.ad) (h3 : B.H0 p = none) (h4 : p ∉ B.pr) : SR B ω (upd H p o) σ sl st ∧ Ext B ω H ω (upd H p o) := by
  have fr : Fr ω.F H ω.F (upd H p o) := fun a h => ⟨h, upd_ne fun e => h1 (e ▸ h)⟩
  have kp : ∀ q, q ≠ p → upd H p o q = H q := fun q h => upd_ne h
  refine ⟨⟨s.len, fun a h => upd_some (s.dom a h), fun a u h hi => ?_, s.newF, s.oldF, s.adl, s.nd, s.iop, s.adn, s.ioc, s.ioc2, fun q hq => upd_some (s.there q hq), s.prF, s.prA, fun q hq => upd_some (s.prH q hq), fun i t h => (s.slot i t h).up fr (List.prefix_refl _),
    fun n c q g1 g2 => (s.cell n c q g1 g2).up fr fun _ h => ⟨kp q fun e => h2 (by rw [← e]; exact List.mem_of_getElem? g2), h⟩⟩, ⟨fr, List.prefix_refl _, fun q hq => kp q fun e => h4 (e ▸ hq)⟩⟩
  rw [kp a fun e => by rw [e, h3] at h; cases h]
  exact s.keep a u h hi
def lcGo (h : FG) (t : FT) (f : FE) (sl0 : Sls) : List PyData → Sto → Option (List PyData × Sto)
  | [], st => some ([], st)
  | d :: ds, st => match h d sl0 with
    | none => none
    | some sl1 => match t sl1 st with
      | .ok false st1 => lcGo h t f sl0 ds st1
      | .ok true st1 => match f sl1 st1 with
        | .ok ev st2 => match ev.fix st2 with
          | none => none
          | some (e, st3) => match lcGo h t f sl0 ds st3 with
            | none => none
            | some (es, st4) => some (e :: es, st4)
        | _ => none
      | _ => none
def eLc (vs : List Nat) (fi : FI) (h : FG) (t : FT) (f : FE) : FE := fun sl st => match fi sl st with
  | .fail => .fail
  | .exc x st1 => .exc x st1
  | .ok ds st1 => match lcGo h t f (wipeS sl vs) ds st1 with
    | none => .fail
    | some (es, st2) => if es.length ≤ Lim then .ok (.new (.lst es)) st2 else .fail
def tTrue : FT := fun _ st => .ok true st
/-- the tests of a comprehension -/
def SPT (X : Cx) (ct : Gx) (W : WX) (ifs : List Expr) (f : FT) : Prop := ∀ (B : Bs), B.K = X.K → B.ct = ct → ∀ sl st, PTs X ifs (fun σ H Q => ∃ ω, SR B ω H σ sl st ∧ OutT B W σ ω H sl (f sl st) Q)
theorem pts_imp {ifs : List Expr} {t t' : TT} (h : PTs X ifs t) (i : ∀ σ H Q, t' σ H Q → t σ H Q) : PTs X ifs t' := ⟨fun pins s σ H Q I q => h.run pins s σ H Q I (i _ _ _ q)⟩
theorem spt_nil : SPT X ct W [] tTrue := fun B hB hc sl st => pts_imp pts_nil fun σ H Q ⟨ω, s, q⟩ => q ω H .refl s
theorem spt_one {c : Expr} {t : FT} (h : ST X ct W c t) : SPT X ct W [c] t := fun B hB hc sl st => pts_one (h B hB hc sl st)
abbrev W0 : WX := fun _ _ _ _ => False
theorem SPT.all {ifs : List Expr} {t : FT} (h : SPT X ct W ifs t) {B : Bs} (hB : B.K = X.K) (hc : B.ct = ct) : PTs X ifs (fun σ H Q => ∃ sl st ω, SR B ω H σ sl st ∧ OutT B W σ ω H sl (t sl st) Q) :=
  ⟨fun pins s σ H Q I ⟨sl, st, q⟩ => (h B hB hc sl st).run pins s σ H Q I q⟩
theorem SE.all {e : Expr} {f : FE} (h : SE X ct W e f) {B : Bs} (hB : B.K = X.K) (hc : B.ct = ct) : PE X e (fun σ H Q => ∃ sl st ω, SR B ω H σ sl st ∧ OutE B W σ ω H sl (f sl st) Q) :=
  ⟨fun pins s σ H Q I ⟨sl, st, q⟩ => (h B hB hc sl st).run pins s σ H Q I q⟩
/-- over every list under way -/
theorem SG.allG {tg : Expr} {h : FG} {ts : List Nat} (g : SG X ts tg h) {B : Bs} (hB : B.K = X.K) : PG X tg (fun v σ H Q => ∃ p sl sl' st d ω, h d sl = some sl' ∧ SR (B.guard p) ω H σ sl st ∧ Rp B.K ω.F H v d ∧ ∀ σ', Ts ts σ σ' → SR (B.guard p) ω H σ' sl' st → Q σ' H) :=
  ⟨fun pins s σ H v u Q I r ⟨p, sl, sl', st, d, ω, e, q⟩ => (g (B.guard p) hB sl sl' st d e).run pins s σ H v u Q I r ⟨ω, q⟩⟩
theorem SPT.allG {ifs : List Expr} {t : FT} (h : SPT X ct W ifs t) {B : Bs} (hB : B.K = X.K) (hc : B.ct = ct) : PTs X ifs (fun σ H Q => ∃ p sl st ω, SR (B.guard p) ω H σ sl st ∧ OutT (B.guard p) W σ ω H sl (t sl st) Q) :=
  ⟨fun pins s σ H Q I ⟨p, sl, st, q⟩ => (h (B.guard p) hB hc sl st).run pins s σ H Q I q⟩
theorem SE.allG {e : Expr} {f : FE} (h : SE X ct W e f) {B : Bs} (hB : B.K = X.K) (hc : B.ct = ct) : PE X e (fun σ H Q => ∃ p sl st ω, SR (B.guard p) ω H σ sl st ∧ OutE (B.guard p) W σ ω H sl (f sl st) Q) :=
  ⟨fun pins s σ H Q I ⟨p, sl, st, q⟩ => (h (B.guard p) hB hc sl st).run pins s σ H Q I q⟩
/-- the reading of a list comprehension -/
theorem lc_read {B : Bs} (hB : B.K = X.K) {fi : FI} {h : FG} {t : FT} {f : FE} {vs ts : List Nat} (hts : ∀ i ∈ ts, i ∈ vs) {sl : Sls} {st : Sto} {σ : L2.St} {H : Hp} {Q : VK} {wi : TI}
    (hwi : ∀ σ H R, (∃ ω, SR B ω H σ sl st ∧ OutI B W X σ ω H sl (fi sl st) R) → wi σ H R) (q : ∃ ω, SR B ω H σ sl st ∧ OutE B W σ ω H sl (eLc vs fi h t f sl st) Q) :
    tLc wi (fun v σ H Q => ∃ p sl sl' st d ω, h d sl = some sl' ∧ SR (B.guard p) ω H σ sl st ∧ Rp B.K ω.F H v d ∧ ∀ σ', Ts ts σ σ' → SR (B.guard p) ω H σ' sl' st → Q σ' H) (fun σ H Q => ∃ p sl st ω, SR (B.guard p) ω H σ sl st ∧ OutT (B.guard p) W0 σ ω H sl (t sl st) Q)
      (fun σ H Q => ∃ p sl st ω, SR (B.guard p) ω H σ sl st ∧ OutE (B.guard p) W0 σ ω H sl (f sl st) Q) vs σ H Q := by
  obtain ⟨ω, s, q⟩ := q
  refine hwi σ H _ ⟨ω, s, ?_⟩
  unfold eLc at q
  cases hf : fi sl st with
  | fail => rw [hf] at q; exact q
  | exc x st1 => rw [hf] at q; exact q
  | ok ds st1 =>
    rw [hf] at q
    dsimp only at q
    intro J ω1 H1 x1 s1 wk D hD
    cases hl : lcGo h t f (wipeS sl vs) ds st1 with
    | none => rw [hl] at q; exact q.elim
    | some p =>
      obtain ⟨es, st2⟩ := p
      rw [hl] at q
      dsimp only at q
      by_cases hz : es.length ≤ Lim
      · rw [if_pos hz] at q
        obtain ⟨d1, d2, d3⟩ := s1.fresh hD
        -- W: what is made, what is to come
        let Wv : Nat → Nat → Hp → Prop := fun i m H' => i + m = ds.length ∧ ∃ ω' st' acc acs es', SR (B.guard D) ω' H' (L2.wipe σ vs) (wipeS sl vs) st' ∧ Ext B ω1 H1 ω' H' ∧ H' D = some (.lst acc) ∧ RpA B.K ω'.F H' acc acs ∧
          lcGo h t f (wipeS sl vs) (ds.drop i) st' = some (es', st2) ∧ acs ++ es' = es
        have start : Wv 0 ds.length (upd H1 D (.lst [])) := by
          obtain ⟨s2, e2⟩ := s1.under (o := .lst []) d3 d1 d2.1 d2.2
          exact ⟨by omega, ω1, st1, [], [], es, (s2.wipe vs).guard d3 d1 (by rw [upd_same]; intro z; cases z), e2, upd_same, .nil, by rw [List.drop_zero]; exact hl, rfl⟩
        refine ⟨Wv, ⟨ds.length, start⟩, ?_⟩
        rintro i m H' ⟨em, ω', st', acc, acs, es', s', e', hH, ra, hgo, hes⟩
        obtain ⟨s0, f0, a0, n0⟩ := s'.unguard
        by_cases hi : i < ds.length
        · refine .inr ⟨wk.go _ _ i e'.fr hi, fun H2 => ∃ m', m' < m ∧ Wv (i + 1) m' H2, fun H2 hN => hN, fun x H2 hy => ?_⟩
          have hd : ds[i]? = some ds[i] := List.getElem?_eq_getElem hi
          rw [List.drop_eq_getElem_cons hi] at hgo
          unfold lcGo at hgo
          obtain ⟨F2, px, rx⟩ := wk.yld _ _ i x H2 _ e'.fr s'.dom hd hy
          cases hh : h ds[i] (wipeS sl vs) with
          | none => rw [hh] at hgo; cases hgo
          | some sl2 =>
            rw [hh] at hgo
            dsimp only at hgo
            have s2 := s'.pure px
            have e2 : Ext (B.guard D) ω' H' ⟨F2, ω'.ad⟩ H2 := s'.px px
            refine ⟨D, wipeS sl vs, sl2, st', ds[i], ⟨F2, ω'.ad⟩, hh, s2, by rw [hB]; exact rx, fun σ2 tsr s3 => ⟨?_, ?_⟩⟩
            · have w1 := tsr vs hts
              rw [w1]
              have go : ∀ vs : List Nat, ∀ ws : List Nat, (∀ v ∈ vs, v ∈ ws) → L2.wipe (L2.wipe σ ws) vs = L2.wipe σ ws := by
                intro us
                induction us with
                | nil => intro ws _; rfl
                | cons u us ih =>
                  intro ws hw
                  show (L2.wipe (L2.wipe σ ws) us).set u none = L2.wipe σ ws
                  rw [ih ws fun v hv => hw v (List.mem_cons_of_mem _ hv)]
                  have hu := hw u List.mem_cons_self
                  clear ih hw
                  induction ws with
                  | nil => cases hu
                  | cons w ws ih2 =>
                    show ((L2.wipe σ ws).set w none).set u none = (L2.wipe σ ws).set w none
                    by_cases he : u = w
                    · subst he; rw [List.set_set]
                    · rw [List.set_comm _ _ (fun z => he z.symm), ih2 ((List.mem_cons.mp hu).resolve_left he)]
              exact go vs vs fun _ h => h
            · refine ⟨D, sl2, st', ⟨F2, ω'.ad⟩, s3, ?_⟩
              cases ht : t sl2 st' with
              | fail => rw [ht] at hgo; cases hgo
              | exc y st3 => rw [ht] at hgo; cases hgo
              | ok k st3 =>
                rw [ht] at hgo
                intro ω3 H3 e3 s4
                have e23 := e2.trans e3
                obtain ⟨e23', hD3⟩ := e23.unguard
                have wiped : SR (B.guard D) ω3 H3 (L2.wipe σ vs) (wipeS sl vs) st3 := SR.slots s' e23 s4
                cases k with
                | false =>
                  rw [if_neg Bool.false_ne_true]
                  exact ⟨m - 1, by omega, by omega, ω3, st3, acc, acs, es', wiped, e'.trans e23', hD3.trans hH, ra.up e23.fr, hgo, hes⟩
                | true =>
                  rw [if_pos rfl]
                  refine ⟨D, sl2, st3, ω3, s4, ?_⟩
                  dsimp only at hgo
                  cases hv : f sl2 st3 with
                  | fail => rw [hv] at hgo; cases hgo
                  | exc y st4 => rw [hv] at hgo; cases hgo
                  | ok ev st4 =>
                    rw [hv] at hgo
                    dsimp only at hgo
                    cases hx : ev.fix st4 with
                    | none => rw [hx] at hgo; cases hgo
                    | some pe =>
                      obtain ⟨e1, st5⟩ := pe
                      rw [hx] at hgo
                      dsimp only at hgo
                      cases hg2 : lcGo h t f (wipeS sl vs) (ds.drop (i + 1)) st5 with
                      | none => rw [hg2] at hgo; cases hgo
                      | some pr =>
                        obtain ⟨es2, st6⟩ := pr
                        rw [hg2] at hgo
                        cases hgo
                        intro y ω4 H4 e4 s5 hy4
                        obtain ⟨ω5, e5, s6, r6⟩ := VR.fix s5 hy4 hx
                        have e25 := (e23.trans e4).trans e5
                        obtain ⟨e25', hD5⟩ := e25.unguard
                        have ra5 := ra.up e25.fr
                        obtain ⟨s7, f7, a7, n7⟩ := s6.unguard
                        have wp : SR B ω5 H4 (L2.wipe σ vs) (wipeS sl vs) st5 := SR.slots s0 e25' s7
                        have acl : acc.length < sizeLine := by
                          have h1 := ra.length
                          have h2 : acs.length < es.length := by
                            rw [← hes]
                            simp
                          have := lim_line
                          omega
                        refine ⟨acc, hD5.trans hH, acl, m - 1, by omega, by omega, ω5, st5, acc ++ [y], acs ++ [e1], es2, ?_, ?_, upd_same, ?_, hg2, by rw [← hes]; simp⟩
                        · exact (wp.under f7 a7 d2.1 d2.2).1.guard f7 a7 (by rw [upd_same]; intro z; cases z)
                        · exact (e'.trans e25').trans (wp.under f7 a7 d2.1 d2.2).2
                        · exact (ra5.append (.cons r6 .nil)).up (wp.under (o := .lst (acc ++ [y])) f7 a7 d2.1 d2.2).2.fr
        · have hi' : i = ds.length := by omega
          subst hi'
          refine .inl ⟨wk.stop _ _ e'.fr, ?_⟩
          rw [List.drop_length] at hgo
          unfold lcGo at hgo
          cases hgo
          rw [List.append_nil] at hes
          subst hes
          exact q _ ω' H' (x1.trans e') (SR.slots s (x1.trans e') s0) ⟨D, rfl, a0, ⟨d2.1, d2.2⟩, f0, acc, hH, ra⟩
      · rw [if_neg hz] at q; exact q.elim
theorem se_lc {elt tg iter : Expr} {ifs : List Expr} {scope : Scope} (own : List (Str × Nat)) {pos : Pos} {fi : FI} {h : FG} {t : FT} {f : FE} {ts : List Nat} (hc : X.calm = true) (hN : X.N.Nodup) (hi : SI X ct W tg iter fi) (ok : BlkOk X.N X.env.scope scope own) (hts : ∀ i ∈ ts, i ∈ own.map (·.2))
    (hg : ∀ (s : Shared) (H : Hp) (C : Addr) (cl : List (Str × Addr)) (fp : List Addr), SG (X.blk s H scope (compEnvC scope cl C X.env) fp) ts tg h) (ht : ∀ (s : Shared) (H : Hp) (C : Addr) (cl : List (Str × Addr)) (fp : List Addr), SPT (X.blk s H scope (compEnvC scope cl C X.env) fp) ct W0 ifs t)
    (he : ∀ (s : Shared) (H : Hp) (C : Addr) (cl : List (Str × Addr)) (fp : List Addr), SE (X.blk s H scope (compEnvC scope cl C X.env) fp) ct W0 elt f) (hs : ∀ x, foldedSetIterable iter X.env x = pure x := by intro _; rfl) : SE X ct W (.ListComp elt [⟨tg, iter, ifs, 0⟩] scope pos) (eLc (own.map (·.2)) fi h t f) := by
  intro B hB hb sl st
  refine pe_imp (pe_lc hc hN (hi B hB hb sl st) ok (fun s H C cl fp => (hg s H C cl fp).allG hB) (fun s H C cl fp => (ht s H C cl fp).allG hB hb) (fun s H C cl fp => (he s H C cl fp).allG hB hb) hs) fun σ H Q q => ?_
  exact lc_read hB hts (fun _ _ _ z => z) q
/-- name = [..], the name a local -/
theorem ss_setLc (tell : Bool) (i : Nat) {elt tg iter : Expr} {ifs : List Expr} {scope : Scope} (own : List (Str × Nat)) {y : Str} {pos spos py : Pos} {fi : FI} {h : FG} {t : FT} {f : FE} {ts : List Nat} (hc : X.calm = true) (hN : X.N.Nodup) (hy : X.N[i]? = some y) (hyl : X.env.scope.names.lookup y = some .local)
    (hsw : swapsWith (.ListComp elt [⟨tg, iter, ifs, 0⟩] scope pos) (some (.Name y py)) spos.line X.env = pure true) (hi : SI X ct W tg iter fi) (ok : BlkOk X.N X.env.scope scope own) (hts : ∀ i ∈ ts, i ∈ own.map (·.2))
    (hg : ∀ (s : Shared) (H : Hp) (C : Addr) (cl : List (Str × Addr)) (fp : List Addr), SG (X.blk s H scope (compEnvC scope cl C X.env) fp) ts tg h) (ht : ∀ (s : Shared) (H : Hp) (C : Addr) (cl : List (Str × Addr)) (fp : List Addr), SPT (X.blk s H scope (compEnvC scope cl C X.env) fp) ct W0 ifs t)
    (he : ∀ (s : Shared) (H : Hp) (C : Addr) (cl : List (Str × Addr)) (fp : List Addr), SE (X.blk s H scope (compEnvC scope cl C X.env) fp) ct W0 elt f) (hs : ∀ x, foldedSetIterable iter X.env x = pure x := by intro _; rfl) :
    SS X ct W (.Assign [.Name y py] (.ListComp elt [⟨tg, iter, ifs, 0⟩] scope pos) spos) (sSet tell i (eLc (own.map (·.2)) fi h t f)) := by
  intro B hB hb sl st
  refine set_of (ps_setLc (own := own) hc hN hy hyl hsw (hi B hB hb sl st) ok (fun s H C cl fp => (hg s H C cl fp).allG hB) (fun s H C cl fp => (ht s H C cl fp).allG hB hb) (fun s H C cl fp => (he s H C cl fp).allG hB hb) hs) fun σ H Q q => ?_
  exact lc_read hB hts (fun _ _ _ z => z) q
end
end Px
namespace Px
open PySem PySem.Spec PyProof.Rows L2

section
variable {X : Cx} {ct : Gx} {W : WX}
theorem callR_or {f : Value} {r r' : List V → Hp → VK → Prop} (h : CallR X f r) (h' : CallR X f r') : CallR X f (fun xs H Q => r xs H Q ∨ r' xs H Q) := fun pins s σ H xs us Q I rx q => q.elim (h pins s σ H xs us Q I rx) (h' pins s σ H xs us Q I rx)
/-- a built-in function's call, by what it asks of data -/
def CallD (X : Cx) (f : Value) (g : List PyData → Option OR) : Prop := ∃ r, CallR X f r ∧ ∀ F H xs ds o Q, (∀ a, F a → H a ≠ none) → Bps X.K F H xs ds → g ds = some o → Give X.K F H Q o → r xs H Q
theorem se_fun {id : String} {x : Str} {p pos : Pos} {e : Expr} {es : List Expr} {fa : FA} {g : List PyData → Option OR} (c : CallD X (.builtin id) g) (hg : Gl X x) (hm : X.mg x = none) (hv : bootBuiltins x = some (.builtin id)) (ha : SA X ct W (e :: es) fa)
    (hn : x ≠ "__name__" := by decide) (hdb : (x == ("__debug__" : Str)) = false := by decide) (he : starEach (e :: es) X.env = (false, eval e X.env) :: starEach es X.env := by rfl) (hpl : (backTo pos (starEach es X.env)).any (·.1) = false := by rfl) :
    SE X ct W (.Call (.Name x p) (e :: es) [] pos) (un g fa) := by
  obtain ⟨r, hr, k⟩ := c
  exact se_un (fun t ht => pe_callB hr hg hm hv ht hn hdb he hpl) ha k
theorem se_type {T : String} {x : Str} {p pos : Pos} {e : Expr} {es : List Expr} {fa : FA} {g : List PyData → Option OR} (c : CallD X (.type T) g) (hg : Gl X x) (hm : X.mg x = none) (hv : bootBuiltins x = some (.type T)) (ha : SA X ct W (e :: es) fa)
    (hn : x ≠ "__name__" := by decide) (hdb : (x == ("__debug__" : Str)) = false := by decide) (he : starEach (e :: es) X.env = (false, eval e X.env) :: starEach es X.env := by rfl) (hpl : (backTo pos (starEach es X.env)).any (·.1) = false := by rfl) :
    SE X ct W (.Call (.Name x p) (e :: es) [] pos) (un g fa) := by
  obtain ⟨r, hr, k⟩ := c
  exact se_un (fun t ht => pe_callTy hr hg hm hv ht hn hdb he hpl) ha k
theorem bps1 {K : PySem.W.Frag} {F : Addr → Prop} {H : Hp} {xs : List V} {d : PyData} (b : Bps K F H xs [d]) : ∃ v, xs = [v] ∧ Bp K F H v d := by
  cases b with
  | cons a r => cases r; exact ⟨_, rfl, a⟩
theorem bps2 {K : PySem.W.Frag} {F : Addr → Prop} {H : Hp} {xs : List V} {d e : PyData} (b : Bps K F H xs [d, e]) : ∃ v u, xs = [v, u] ∧ Bp K F H v d ∧ Bp K F H u e := by
  cases b with
  | cons a r =>
    obtain ⟨u, rfl, b⟩ := bps1 r
    exact ⟨_, _, rfl, a, b⟩
/-! ### len -/
def lenD : List PyData → Option OR
  | [.str s] => if s.length ≤ Lim then some (.val (.int s.length)) else none
  | [.list xs] => some (.val (.int xs.length))
  | [.tuple xs] => some (.val (.int xs.length))
  | _ => none
theorem call_lenA : CallD X (.builtin "len") lenD := ⟨_, call_len, fun F H xs ds o Q dm b e gv => by
  unfold lenD at e
  split at e
  · split at e
    · rename_i hl
      cases e
      replace b := bps1 b; obtain ⟨v, rfl, b⟩ := b
      cases b.str_
      exact ⟨_, _, rfl, ⟨Nat.le_trans hl lim_line, rfl⟩, gv.here dm (.int _)⟩
    · cases e
  · cases e
    replace b := bps1 b; obtain ⟨v, rfl, b⟩ := b
    obtain ⟨a, vs, rfl, s, r⟩ := b.list_
    exact ⟨_, _, rfl, .inl ⟨vs, s, r.length.symm⟩, gv.here dm (.int _)⟩
  · cases e
    replace b := bps1 b; obtain ⟨v, rfl, b⟩ := b
    obtain ⟨a, vs, rfl, s, r⟩ := b.tup_
    exact ⟨_, _, rfl, .inr ⟨vs, s, r.length.symm⟩, gv.here dm (.int _)⟩
  · cases e⟩
/-! ### all, any, sum -/
def bools : List PyData → Option (List Bool)
  | [] => some []
  | .bool b :: r => (bools r).map (b :: ·)
  | _ => none
theorem bools_rp {K : PySem.W.Frag} {F : Addr → Prop} {H : Hp} : ∀ {ds : List PyData} {vs : List V} {bs : List Bool}, RpA K F H vs ds → bools ds = some bs → vs = bs.map V.bl
  | [], _, bs, .nil, e => by cases e; rfl
  | d :: ds, _, bs, .cons a r, e => by
    cases d with
    | bool b =>
      unfold bools at e
      cases h : bools ds with
      | none => rw [h] at e; cases e
      | some bs2 =>
        rw [h] at e
        cases e
        cases a
        rw [bools_rp r h]
        rfl
    | none => cases e
    | int _ => cases e
    | str _ => cases e
    | list _ => cases e
    | tuple _ => cases e
    | dict _ => cases e
def allD : List PyData → Option OR
  | [.list xs] => (bools xs).map fun bs => .val (.bool (bs.all id))
  | _ => none
def anyD : List PyData → Option OR
  | [.list xs] => (bools xs).map fun bs => .val (.bool (bs.any id))
  | _ => none
theorem call_allA (hc : X.calm = true) : CallD X (.builtin "all") allD := ⟨_, cr_all hc, fun F H xs ds o Q dm b e gv => by
  unfold allD at e
  split at e
  · rename_i xs2
    replace b := bps1 b; obtain ⟨v, rfl, b⟩ := b
    obtain ⟨a, vs, rfl, s, r⟩ := b.list_
    cases h : bools xs2 with
    | none => rw [h] at e; cases e
    | some bs =>
      rw [h] at e
      cases e
      have ev := bools_rp r h
      subst ev
      exact ⟨a, bs, rfl, s, gv.here dm (.bl _)⟩
  · cases e⟩
theorem call_anyA (hc : X.calm = true) : CallD X (.builtin "any") anyD := ⟨_, cr_any hc, fun F H xs ds o Q dm b e gv => by
  unfold anyD at e
  split at e
  · rename_i xs2
    replace b := bps1 b; obtain ⟨v, rfl, b⟩ := b
    obtain ⟨a, vs, rfl, s, r⟩ := b.list_
    cases h : bools xs2 with
    | none => rw [h] at e; cases e
    | some bs =>
      rw [h] at e
      cases e
      have ev := bools_rp r h
      subst ev
      exact ⟨a, bs, rfl, s, gv.here dm (.bl _)⟩
  · cases e⟩
def intsOf : List PyData → Option (List Int)
  | [] => some []
  | .int b :: r => (intsOf r).map (b :: ·)
  | _ => none
theorem intsOf_rp {K : PySem.W.Frag} {F : Addr → Prop} {H : Hp} : ∀ {ds : List PyData} {vs : List V} {bs : List Int}, RpA K F H vs ds → intsOf ds = some bs → vs = bs.map V.int
  | [], _, bs, .nil, e => by cases e; rfl
  | d :: ds, _, bs, .cons a r, e => by
    cases d with
    | int b =>
      unfold intsOf at e
      cases h : intsOf ds with
      | none => rw [h] at e; cases e
      | some bs2 =>
        rw [h] at e
        cases e
        cases a
        rw [intsOf_rp r h]
        rfl
    | none => cases e
    | bool _ => cases e
    | str _ => cases e
    | list _ => cases e
    | tuple _ => cases e
    | dict _ => cases e
def sumD : List PyData → Option OR
  | [.list xs] => (intsOf xs).map fun bs => .val (.int bs.sum)
  | _ => none
theorem call_sumA (hc : X.calm = true) : CallD X (.builtin "sum") sumD := ⟨_, cr_sum hc, fun F H xs ds o Q dm b e gv => by
  unfold sumD at e
  split at e
  · rename_i xs2
    replace b := bps1 b; obtain ⟨v, rfl, b⟩ := b
    obtain ⟨a, vs, rfl, s, r⟩ := b.list_
    cases h : intsOf xs2 with
    | none => rw [h] at e; cases e
    | some bs =>
      rw [h] at e
      cases e
      have ev := intsOf_rp r h
      subst ev
      exact ⟨a, bs, rfl, s, gv.here dm (.int _)⟩
  · cases e⟩
/-! ### int, str, max, min, list, tuple -/
def intD : List PyData → Option OR
  | [.int i] => some (.val (.int i))
  | [.bool b] => some (.val (.int (if b then 1 else 0)))
  | _ => none
theorem call_intA : CallD X (.type "int") intD := ⟨_, call_int1, fun F H xs ds o Q dm b e gv => by
  unfold intD at e
  split at e
  · cases e
    replace b := bps1 b; obtain ⟨v, rfl, b⟩ := b
    cases b.int_
    exact .inl ⟨_, rfl, gv.here dm (.int _)⟩
  · cases e
    replace b := bps1 b; obtain ⟨v, rfl, b⟩ := b
    cases b.bl_
    exact .inr ⟨_, rfl, gv.here dm (.int _)⟩
  · cases e⟩
def maxD : List PyData → Option OR
  | [.int i, .int j] => some (.val (.int (if j > i then j else i)))
  | _ => none
def minD : List PyData → Option OR
  | [.int i, .int j] => some (.val (.int (if j < i then j else i)))
  | _ => none
theorem call_maxA (hc : X.calm = true) : CallD X (.builtin "max") maxD := ⟨_, call_max2 hc, fun F H xs ds o Q dm b e gv => by
  unfold maxD at e
  split at e
  · cases e
    replace b := bps2 b; obtain ⟨v, u, rfl, b1, b2⟩ := b
    cases b1.int_
    cases b2.int_
    exact ⟨_, _, rfl, gv.here dm (.int _)⟩
  · cases e⟩
theorem call_minA (hc : X.calm = true) : CallD X (.builtin "min") minD := ⟨_, call_min2 hc, fun F H xs ds o Q dm b e gv => by
  unfold minD at e
  split at e
  · cases e
    replace b := bps2 b; obtain ⟨v, u, rfl, b1, b2⟩ := b
    cases b1.int_
    cases b2.int_
    exact ⟨_, _, rfl, gv.here dm (.int _)⟩
  · cases e⟩
def listD : List PyData → Option OR
  | [.list xs] => some (.new (.lst xs))
  | [.tuple xs] => some (.new (.lst xs))
  | _ => none
theorem call_listA : CallD X (.type "list") listD := ⟨_, call_list_of, fun F H xs ds o Q dm b e gv => by
  unfold listD at e
  split at e
  · cases e
    replace b := bps1 b; obtain ⟨v, rfl, b⟩ := b
    obtain ⟨a, vs, rfl, s, r⟩ := b.list_
    exact ⟨a, vs, rfl, .inl s, fun l hl => gv.lst dm hl r⟩
  · cases e
    replace b := bps1 b; obtain ⟨v, rfl, b⟩ := b
    obtain ⟨a, vs, rfl, s, r⟩ := b.tup_
    exact ⟨a, vs, rfl, .inr s, fun l hl => gv.lst dm hl r⟩
  · cases e⟩
def tupleD : List PyData → Option OR
  | [.list xs] => some (.val (.tuple xs))
  | [.tuple xs] => some (.val (.tuple xs))
  | _ => none
theorem call_tupleA : CallD X (.type "tuple") tupleD := ⟨_, call_tuple_of, fun F H xs ds o Q dm b e gv => by
  unfold tupleD at e
  split at e
  · cases e
    replace b := bps1 b; obtain ⟨v, rfl, b⟩ := b
    obtain ⟨a, vs, rfl, s, r⟩ := b.list_
    exact ⟨a, vs, rfl, .inl ⟨s, fun l hl => gv.tup dm hl r⟩⟩
  · cases e
    replace b := bps1 b; obtain ⟨v, rfl, b⟩ := b
    cases b with
    | rp t =>
      cases t with
      | tup f r => exact ⟨_, _, rfl, .inr ⟨f.sq, gv.here dm (.tup f r)⟩⟩
  · cases e⟩
/-! ### isinstance of a built-in class -/
def kindOf : PyData → String
  | .none => "NoneType"
  | .bool _ => "bool"
  | .int _ => "int"
  | .str _ => "str"
  | .list _ => "list"
  | .tuple _ => "tuple"
  | .dict _ => "dict"
/-- isinstance's answers for a class T: by kind -/
def isD (T : String) : PyData → Option OR := fun d => (kitB (kindOf d) T).map fun b => .val (.bool b)
theorem Rd.tyT {K : PySem.W.Frag} {H : Hp} {a : Addr} {xs : List V} (h : SqT K H a xs) : TyX K H (.ref a) (.type "tuple") := by
  rcases h with (h | ⟨o, h⟩) | ⟨o, its, n, h, hc, _⟩
  · exact .base (.tup h)
  · exact .fTuple h
  · exact .kTuple h hc
theorem Rd.tyL {K : PySem.W.Frag} {H : Hp} {a : Addr} {xs : List V} (h : SqL K H a xs) : TyX K H (.ref a) (.type "list") := by
  rcases h with (h | ⟨o, h⟩) | ⟨o, its, n, h, hc, _⟩
  · exact .base (.lst h)
  · exact .base (.frz h)
  · exact .kList h hc
end
end Px
namespace Px
open PySem PySem.Spec PyProof.Rows L2

section
variable {X : Cx} {ct : Gx} {W : WX}
/-! ### in -/
def scalD : PyData → Bool
  | .none => true
  | .bool _ => true
  | .int _ => true
  | .str _ => true
  | _ => false
theorem scal_flat {K : PySem.W.Frag} {F : Addr → Prop} {H : Hp} {v : V} {d : PyData} (h : scalD d = true) (b : Bp K F H v d) : flatV v = true := by
  cases d with
  | none => cases b.non_; rfl
  | bool _ => cases b.bl_; rfl
  | int _ => cases b.int_; rfl
  | str _ => cases b.str_; rfl
  | list _ => cases h
  | tuple _ => cases h
  | dict _ => cases h
theorem scal_eq {K : PySem.W.Frag} {F : Addr → Prop} {H : Hp} {v u : V} {d e : PyData} (h : scalD d = true) (h' : scalD e = true) (b : Bp K F H v d) (b' : Bp K F H u e) : eqV v u = PyData.eqv d e := by
  cases d with
  | none => cases b.non_; cases e with
    | none => cases b'.non_; simp [eqV, PyData.eqv]
    | bool _ => cases b'.bl_; simp [eqV, PyData.eqv]
    | int _ => cases b'.int_; simp [eqV, PyData.eqv]
    | str _ => cases b'.str_; simp [eqV, PyData.eqv]
    | _ => cases h'
  | bool _ => cases b.bl_; cases e with
    | none => cases b'.non_; simp [eqV, PyData.eqv]
    | bool _ => cases b'.bl_; simp [eqV, PyData.eqv]
    | int _ => cases b'.int_; simp [eqV, PyData.eqv]
    | str _ => cases b'.str_; simp [eqV, PyData.eqv]
    | _ => cases h'
  | int _ => cases b.int_; cases e with
    | none => cases b'.non_; simp [eqV, PyData.eqv]
    | bool _ => cases b'.bl_; simp [eqV, PyData.eqv]
    | int _ => cases b'.int_; simp [eqV, PyData.eqv]
    | str _ => cases b'.str_; simp [eqV, PyData.eqv]
    | _ => cases h'
  | str _ => cases b.str_; cases e with
    | none => cases b'.non_; simp [eqV, PyData.eqv]
    | bool _ => cases b'.bl_; simp [eqV, PyData.eqv]
    | int _ => cases b'.int_; simp [eqV, PyData.eqv]
    | str _ => cases b'.str_; simp [eqV, PyData.eqv]
    | _ => cases h'
  | list _ => cases h
  | tuple _ => cases h
  | dict _ => cases h
theorem scal_all {K : PySem.W.Frag} {F : Addr → Prop} {H : Hp} {x : V} {d : PyData} (hd : scalD d = true) (bd : Bp K F H x d) : ∀ {vs : List V} {ds : List PyData}, RpA K F H vs ds → ds.all scalD = true → vs.all flatV = true ∧ inV x vs = ds.any fun z => PyData.eqv z d
  | _, _, .nil, _ => ⟨rfl, rfl⟩
  | _, _, .cons (v := v) (d := e) a r, h => by
    rw [List.all_cons, Bool.and_eq_true] at h
    obtain ⟨i1, i2⟩ := scal_all hd bd r h.2
    refine ⟨by rw [List.all_cons, scal_flat h.1 (.rp a), i1]; rfl, ?_⟩
    unfold inV at i2 ⊢
    rw [List.any_cons, List.any_cons, i2, scal_eq h.1 hd (.rp a) bd]
def inD : PyData → PyData → Option Bool
  | .str c, .str z => match c.cps.toList with
    | [k] => some (decide (k ∈ z.cps.toList))
    | _ => none
  | x, .list ds => if (scalD x && ds.all scalD) = true then some (ds.any fun z => PyData.eqv z x) else if (okEq x && okEq (.list ds)) = true then some (ds.any fun z => PyData.eqv z x) else none
  | x, .tuple ds => if (scalD x && ds.all scalD) = true then some (ds.any fun z => PyData.eqv z x) else none
  | _, _ => none
def notInD : PyData → PyData → Option Bool := fun a b => (inD a b).map (!·)
theorem sign_eq {c : Str} {k : Nat} (h : c.cps.toList = [k]) : c = ⟨#[k]⟩ := by
  cases c with
  | mk a =>
    have : a = #[k] := by
      rw [← Array.toList_inj]
      exact h
    rw [this]
theorem in_ask {F : Addr → Prop} {H : Hp} {x y : V} {d1 d2 : PyData} {b : Bool} (b1 : Bp X.K F H x d1) (b2 : Bp X.K F H y d2) (e : inD d1 d2 = some b) :
    (∃ (c : Nat) (z : Str), x = .str ⟨#[c]⟩ ∧ y = .str z ∧ decide (c ∈ z.cps.toList) = b) ∨ (∃ p xs, y = .ref p ∧ (SqL X.K H p xs ∨ SqT X.K H p xs) ∧ flatV x = true ∧ xs.all flatV = true ∧ inV x xs = b) ∨
      ∃ d ds, Dp X.K H x d ∧ Dp X.K H y (.list ds) ∧ SeqAt.shaped d = true ∧ SeqAt.shaped (.list ds) = true ∧ (ds.any fun z => PyData.eqv z d) = b := by
  unfold inD at e
  split at e
  · rename_i c z
    split at e
    · rename_i k hk
      cases e
      cases b1.str_
      cases b2.str_
      rw [sign_eq hk]
      exact .inl ⟨k, z, rfl, rfl, rfl⟩
    · cases e
  · rename_i ds hne
    split at e
    · rename_i h
      cases e
      rw [Bool.and_eq_true] at h
      obtain ⟨a, vs, rfl, s, r⟩ := b2.list_
      obtain ⟨i1, i2⟩ := scal_all h.1 b1 r h.2
      exact .inr (.inl ⟨a, vs, rfl, .inl s, scal_flat h.1 b1, i1, i2⟩)
    · split at e
      · rename_i h
        cases e
        rw [Bool.and_eq_true] at h
        obtain ⟨s1, n1⟩ := b1.shaped h.1
        obtain ⟨s2, n2⟩ := b2.shaped h.2
        exact .inr (.inr ⟨_, _, b1.dp n1, b2.dp n2, s1, s2, rfl⟩)
      · cases e
  · rename_i xx ds hne
    split at e
    · rename_i h
      cases e
      rw [Bool.and_eq_true] at h
      obtain ⟨a, vs, rfl, s, r⟩ := b2.tup_
      obtain ⟨i1, i2⟩ := scal_all h.1 b1 r h.2
      exact .inr (.inl ⟨a, vs, rfl, .inr s, scal_flat h.1 b1, i1, i2⟩)
    · cases e
  · cases e
theorem rel_in (hu : X.A.units + 65 < cLine) : RelD X .In inD := ⟨_, op_or op_in_sign (op_or op_in_seq (op_inD hu)), fun F H x y d1 d2 b Q b1 b2 e q => by
  rcases in_ask b1 b2 e with ⟨c, z, h1, h2, h3⟩ | ⟨p, xs, h1, h2, h3, h4, h5⟩ | ⟨d, ds, h1, h2, h3, h4, h5⟩
  · exact .inl ⟨c, z, h1, h2, by rw [h3]; exact q⟩
  · exact .inr (.inl ⟨p, xs, h1, h2, h3, h4, by rw [if_neg Bool.false_ne_true, h5]; exact q⟩)
  · exact .inr (.inr ⟨d, ds, h1, h2, h3, h4, by rw [h5]; exact q⟩)⟩
theorem rel_notIn (hu : X.A.units + 65 < cLine) : RelD X .NotIn notInD := ⟨_, op_or op_notIn_sign (op_or op_notIn_seq (op_notInD hu)), fun F H x y d1 d2 b Q b1 b2 e q => by
  unfold notInD at e
  cases h : inD d1 d2 with
  | none => rw [h] at e; cases e
  | some k =>
    rw [h] at e
    cases e
    rcases in_ask b1 b2 h with ⟨c, z, h1, h2, h3⟩ | ⟨p, xs, h1, h2, h3, h4, h5⟩ | ⟨d, ds, h1, h2, h3, h4, h5⟩
    · exact .inl ⟨c, z, h1, h2, by rw [h3]; exact q⟩
    · exact .inr (.inl ⟨p, xs, h1, h2, h3, h4, by rw [if_pos rfl, h5]; exact q⟩)
    · exact .inr (.inr ⟨d, ds, h1, h2, h3, h4, by rw [h5]; exact q⟩)⟩
/-! ### a < b < c -/
def t3 (c1 c2 : PyData → PyData → Option Bool) (f1 f2 f3 : FE) : FT := fun sl st => match f1 sl st with
  | .fail => .fail
  | .exc x st1 => .exc x st1
  | .ok ev1 st1 => match f2 sl st1 with
    | .fail => .fail
    | .exc x st2 => .exc x st2
    | .ok (.val d2) st2 => match ev1.dat st2 with
      | none => .fail
      | some d1 => match c1 d1 d2 with
        | none => .fail
        | some false => .ok false st2
        | some true => match f3 sl st2 with
          | .fail => .fail
          | .exc x st3 => .exc x st3
          | .ok ev3 st3 => match ev3.dat st3 with
            | none => .fail
            | some d3 => match c2 d2 d3 with
              | none => .fail
              | some k => .ok k st3
    | .ok _ _ => .fail
theorem OutT.imp {B : Bs} {σ : L2.St} {ω : Wd} {H : Hp} {sl : Sls} {r : Re Bool} {Q Q' : Bool → Hp → Prop} (h : OutT B W σ ω H sl r Q) (i : ∀ b H, Q b H → Q' b H) : OutT B W σ ω H sl r Q' := by
  cases r with
  | fail => exact h
  | exc x st => exact h
  | ok b st => exact fun ω' H' e s' => i _ _ (h ω' H' e s')
theorem chain_read {B : Bs} (hB : B.K = X.K) {f1 f2 f3 : FE} {c1 c2 : PyData → PyData → Option Bool} {r1 r2 : R2} (k1 : ∀ F H x y d1 d2 b Q, Bp X.K F H x d1 → Bp X.K F H y d2 → c1 d1 d2 = some b → Q (.bl b) H → r1 x y H Q)
    (k2 : ∀ F H x y d1 d2 b Q, Bp X.K F H x d1 → Bp X.K F H y d2 → c2 d1 d2 = some b → Q (.bl b) H → r2 x y H Q) {sl : Sls} {st : Sto} {σ : L2.St} {H : Hp} {Q : VK} {ω : Wd} (s : SR B ω H σ sl st) (q : OutT B W σ ω H sl (t3 c1 c2 f1 f2 f3 sl st) (fun b H' => Q (.bl b) H')) :
    tChain r1 r2 (fun σ H Q => ∃ sl st ω, SR B ω H σ sl st ∧ OutE B W σ ω H sl (f1 sl st) Q) (fun σ H Q => ∃ sl st ω, SR B ω H σ sl st ∧ OutE B W σ ω H sl (f2 sl st) Q) (fun σ H Q => ∃ sl st ω, SR B ω H σ sl st ∧ OutE B W σ ω H sl (f3 sl st) Q) σ H Q := by
  refine ⟨sl, st, ω, s, ?_⟩
  unfold t3 at q
  cases hf1 : f1 sl st with
  | fail => rw [hf1] at q; exact q
  | exc x st1 => rw [hf1] at q; exact q
  | ok ev1 st1 =>
    rw [hf1] at q
    dsimp only at q
    intro v ω1 H1 x1 s1 hv
    obtain ⟨ω2, x2, s2, hv2⟩ := VR.soft s1 hv
    refine ⟨sl, st1, ω2, s2, ?_⟩
    have x12 := x1.trans x2
    cases hf2 : f2 sl st1 with
    | fail => rw [hf2] at q; exact q
    | exc x st2 => rw [hf2] at q; exact OutT.up q x12
    | ok ev2 st2 =>
      rw [hf2] at q
      intro u ω3 H3 x3 s3 hu
      have hv3 := VR.up x3 hv2
      cases ev2 with
      | bor n => exact q.elim
      | new o => exact q.elim
      | val d2 =>
        dsimp only at q
        cases hd1 : ev1.dat st2 with
        | none => rw [hd1] at q; exact q.elim
        | some d1 =>
          rw [hd1] at q
          dsimp only at q
          have hu' : Rp B.K ω3.F H3 u d2 := hu
          have b1 := VR.bp s3 hv3 (by rw [EV.soft_dat]; exact hd1)
          rw [hB] at b1
          cases hk : c1 d1 d2 with
          | none => rw [hk] at q; exact q.elim
          | some k =>
            rw [hk] at q
            refine k1 ω3.F H3 v u d1 d2 k _ b1 (.rp (by rw [← hB]; exact hu')) hk ⟨k, rfl, ?_⟩
            have x123 := x12.trans x3
            cases k with
            | false =>
              rw [if_neg Bool.false_ne_true]
              exact q ω3 H3 x123 s3
            | true =>
              rw [if_pos rfl]
              dsimp only at q
              refine ⟨sl, st2, ω3, s3, ?_⟩
              cases hf3 : f3 sl st2 with
              | fail => rw [hf3] at q; exact q
              | exc x st3 => rw [hf3] at q; exact OutT.up q x123
              | ok ev3 st3 =>
                rw [hf3] at q
                dsimp only at q
                intro z ω4 H4 x4 s4 hz
                cases hd3 : ev3.dat st3 with
                | none => rw [hd3] at q; exact q.elim
                | some d3 =>
                  rw [hd3] at q
                  dsimp only at q
                  have b3 := VR.bp s4 hz hd3
                  have b2 : Rp B.K ω4.F H4 u d2 := hu'.up x4.fr
                  rw [hB] at b3 b2
                  cases hk2 : c2 d2 d3 with
                  | none => rw [hk2] at q; exact q.elim
                  | some k' =>
                    rw [hk2] at q
                    exact k2 ω4.F H4 u z d2 d3 k' _ (.rp b2) b3 hk2 (q ω4 H4 (x123.trans x4) s4)
theorem st_chain {a b c : Expr} {op op' : CmpOp} {f1 f2 f3 : FE} {pos} {c1 c2 : PyData → PyData → Option Bool} (r1 : RelD X op c1) (r2 : RelD X op' c2) (ha : SE X ct W a f1) (hb : SE X ct W b f2) (hcc : SE X ct W c f3)
    (hm : lastMarks [op, op'] [b, c] = false := by with_unfolding_all rfl) : ST X ct W (.Compare a [op, op'] [b, c] pos) (t3 c1 c2 f1 f2 f3) := by
  obtain ⟨r1, hop1, k1⟩ := r1
  obtain ⟨r2, hop2, k2⟩ := r2
  exact fun B hB hc sl st => pt_imp (pt_chain hop1 hop2 (ha.all hB hc) (hb.all hB hc) (hcc.all hB hc) hm) fun σ H Q ⟨ω, s, q⟩ => chain_read hB k1 k2 s (OutT.imp q fun b H' h => ⟨b, rfl, h⟩)
theorem se_chain {a b c : Expr} {op op' : CmpOp} {f1 f2 f3 : FE} {pos} {c1 c2 : PyData → PyData → Option Bool} (r1 : RelD X op c1) (r2 : RelD X op' c2) (ha : SE X ct W a f1) (hb : SE X ct W b f2) (hcc : SE X ct W c f3)
    (hm : lastMarks [op, op'] [b, c] = false := by with_unfolding_all rfl) : SE X ct W (.Compare a [op, op'] [b, c] pos) (eOfT (t3 c1 c2 f1 f2 f3)) := by
  obtain ⟨r1, hop1, k1⟩ := r1
  obtain ⟨r2, hop2, k2⟩ := r2
  refine fun B hB hc sl st => pe_imp (pe_chain hop1 hop2 (ha.all hB hc) (hb.all hB hc) (hcc.all hB hc) hm) fun σ H Q ⟨ω, s, q⟩ => ?_
  have q' : OutT B W σ ω H sl (t3 c1 c2 f1 f2 f3 sl st) (fun b H' => Q (.bl b) H') := by
    unfold eOfT at q
    cases h : t3 c1 c2 f1 f2 f3 sl st with
    | fail => rw [h] at q; exact q
    | exc x st1 => rw [h] at q; exact q
    | ok k st1 => rw [h] at q; exact fun ω' H' e s' => q (.bl k) ω' H' e s' (.bl k)
  exact chain_read hB k1 k2 s q'
/-! ### items, slices -/
def ixD : PyData → PyData → Option OR
  | .list ds, .int i => (atI ds i).map .val
  | .tuple ds, .int i => (atI ds i).map .val
  | .str s, .int i => if s.length ≤ Lim then (atI s.cps.toList i).map fun c => .val (.str ⟨#[c]⟩) else none
  | _, _ => none
theorem atI_rp {K : PySem.W.Frag} {F : Addr → Prop} {H : Hp} {vs : List V} {ds : List PyData} {i : Int} {d : PyData} (r : RpA K F H vs ds) (h : atI ds i = some d) : ∃ v, atI vs i = some v ∧ Rp K F H v d := by
  unfold atI at h ⊢
  rw [r.length]
  cases hj : ixN ds.length i with
  | none => rw [hj] at h; cases h
  | some j =>
    rw [hj] at h
    obtain ⟨v, h1, h2⟩ := r.get h
    exact ⟨v, h1, h2⟩
theorem strOk_sub {x y : Str} (h : PyData.strOk x = true) (s : ∀ c ∈ y.cps.toList, c ∈ x.cps.toList) : PyData.strOk y = true := by
  rw [strOk_iff] at *
  exact fun c hc => h c (s c hc)
theorem atI_mem {α : Type} {xs : List α} {i : Int} {x : α} (h : atI xs i = some x) : x ∈ xs := by
  unfold atI at h
  cases hj : ixN xs.length i with
  | none => rw [hj] at h; cases h
  | some j => rw [hj] at h; exact List.mem_of_getElem? h
theorem se_ix {a b : Expr} {f g : FE} {pos} (h1 : SE X ct W a f) (h2 : SE X ct W b g) (hs : PlainIx b := by exact fun _ _ => rfl) : SE X ct W (.Subscript a b pos) (u2 ixD f g) := by
  refine se_u2 (fun ta tb ha hb => pe_ix ix_seq ha hb hs) h1 h2 fun F H x y d1 d2 o Q dm b1 b2 e gv => ?_
  unfold ixD at e
  split at e
  · rename_i ds i
    cases hd : atI ds i with
    | none => rw [hd] at e; cases e
    | some d =>
      rw [hd] at e
      cases e
      cases b2.int_
      obtain ⟨a, vs, rfl, s, r⟩ := b1.list_
      obtain ⟨v, hv, rv⟩ := atI_rp r hd
      exact .inl ⟨a, vs, i, v, rfl, rfl, s, hv, gv.here dm rv⟩
  · rename_i ds i
    cases hd : atI ds i with
    | none => rw [hd] at e; cases e
    | some d =>
      rw [hd] at e
      cases e
      cases b2.int_
      obtain ⟨a, vs, rfl, s, r⟩ := b1.tup_
      obtain ⟨v, hv, rv⟩ := atI_rp r hd
      exact .inr (.inl ⟨a, vs, i, v, rfl, rfl, s, hv, gv.here dm rv⟩)
  · rename_i s i
    split at e
    · rename_i hl
      cases hd : atI s.cps.toList i with
      | none => rw [hd] at e; cases e
      | some c =>
        rw [hd] at e
        cases e
        have k := b1.ok_
        cases b2.int_
        cases b1.str_
        exact .inr (.inr ⟨s, i, c, rfl, rfl, Nat.le_trans hl lim_line, hd, gv.here dm (.str _ (strOk_sub k fun c2 h2 => by simp at h2; subst h2; exact atI_mem hd))⟩)
    · cases e
  · cases e
/-- an optional part of a slice -/
abbrev FO := Sls → Sto → Re (Option Int)
def OutO (B : Bs) (W : WX) (σ : L2.St) (ω : Wd) (H : Hp) (sl : Sls) (r : Re (Option Int)) (Q : Option Int → Hp → Prop) : Prop := match r with
  | .fail => False
  | .ok o st => ∀ ω' H', Ext B ω H ω' H' → SR B ω' H' σ sl st → Q o H'
  | .exc x st => ∀ cls d ω' H', Ext B ω H ω' H' → SR B ω' H' σ sl st → ExR B x cls d H' → W cls d σ H'
def SO (X : Cx) (ct : Gx) (W : WX) (e : Option Expr) (f : FO) : Prop := ∀ (B : Bs), B.K = X.K → B.ct = ct → PO X e (fun σ H Q => ∃ sl st ω, SR B ω H σ sl st ∧ OutO B W σ ω H sl (f sl st) Q)
theorem po_imp {e : Option Expr} {t t' : TO} (h : PO X e t) (i : ∀ σ H Q, t' σ H Q → t σ H Q) : PO X e t' := ⟨fun pins s σ H Q I q => h.run pins s σ H Q I (i _ _ _ q)⟩
def oNone : FO := fun _ st => .ok none st
def oInt (f : FE) : FO := fun sl st => match f sl st with
  | .fail => .fail
  | .exc x st1 => .exc x st1
  | .ok (.val (.int i)) st1 => .ok (some i) st1
  | .ok _ _ => .fail
theorem so_none : SO X ct W none oNone := fun B hB hc => po_imp po_none fun σ H Q ⟨sl, st, ω, s, q⟩ => q ω H .refl s
theorem so_some {e : Expr} {f : FE} (h : SE X ct W e f) : SO X ct W (some e) (oInt f) := by
  intro B hB hc
  refine po_imp (po_some (h.all hB hc)) fun σ H Q ⟨sl, st, ω, s, q⟩ => ⟨sl, st, ω, s, ?_⟩
  unfold oInt at q
  cases hf : f sl st with
  | fail => rw [hf] at q; exact q
  | exc x st1 => rw [hf] at q; exact q
  | ok ev st1 =>
    rw [hf] at q
    intro v ω' H' x s' hv
    cases ev with
    | bor n => exact q.elim
    | new o => exact q.elim
    | val d =>
      cases d with
      | int i =>
        have hv' : Rp B.K ω'.F H' v (.int i) := hv
        cases hv'
        exact ⟨i, rfl, q ω' H' x s'⟩
      | none => exact q.elim
      | bool _ => exact q.elim
      | str _ => exact q.elim
      | list _ => exact q.elim
      | tuple _ => exact q.elim
      | dict _ => exact q.elim
def cutL {α : Type} (xs : List α) (lo hi : Option Int) : List α := (xs.drop (HT.sIx xs.length 0 lo)).take (HT.sIx xs.length xs.length hi - HT.sIx xs.length 0 lo)
def cutD (lo hi : Option Int) : PyData → Option OR
  | .list ds => some (.new (.lst (cutL ds lo hi)))
  | .tuple ds => some (.val (.tuple (cutL ds lo hi)))
  | .str s => if s.length ≤ Lim then some (.val (.str (cutS s lo hi))) else none
  | _ => none
def eCut (f : FE) (l h : FO) : FE := fun sl st => match f sl st with
  | .fail => .fail
  | .exc x st1 => .exc x st1
  | .ok ev st1 => match l sl st1 with
    | .fail => .fail
    | .exc x st2 => .exc x st2
    | .ok lo st2 => match h sl st2 with
      | .fail => .fail
      | .exc x st3 => .exc x st3
      | .ok hi st3 => match ev.dat st3 with
        | none => .fail
        | some d => match cutD lo hi d with
          | none => .fail
          | some r => .ok r.ev st3
theorem se_cut {e : Expr} {lo hi : Option Expr} {f : FE} {l h : FO} {pos p2} (he : SE X ct W e f) (hl : SO X ct W lo l) (hh : SO X ct W hi h) : SE X ct W (.Subscript e (.Slice lo hi none p2) pos) (eCut f l h) := by
  intro B hB hc sl st
  refine pe_imp (pe_slice (L2.SlR.or sl_list (L2.SlR.or sl_tupA sl_str)) (he.all hB hc) (hl B hB hc) (hh B hB hc)) fun σ H Q ⟨ω, s, q⟩ => ⟨sl, st, ω, s, ?_⟩
  unfold eCut at q
  cases hf : f sl st with
  | fail => rw [hf] at q; exact q
  | exc x st1 => rw [hf] at q; exact q
  | ok ev st1 =>
    rw [hf] at q
    dsimp only at q
    intro v ω1 H1 x1 s1 hv
    obtain ⟨ω2, x2, s2, hv2⟩ := VR.soft s1 hv
    have x12 := x1.trans x2
    refine ⟨sl, st1, ω2, s2, ?_⟩
    cases hfl : l sl st1 with
    | fail => rw [hfl] at q; exact q
    | exc x st2 => rw [hfl] at q; exact fun cls d ω' H' e s' => q cls d ω' H' (x12.trans e) s'
    | ok lo' st2 =>
      rw [hfl] at q
      dsimp only at q
      intro ω3 H3 x3 s3
      have x13 := x12.trans x3
      refine ⟨sl, st2, ω3, s3, ?_⟩
      cases hfh : h sl st2 with
      | fail => rw [hfh] at q; exact q
      | exc x st3 => rw [hfh] at q; exact fun cls d ω' H' e s' => q cls d ω' H' (x13.trans e) s'
      | ok hi' st3 =>
        rw [hfh] at q
        dsimp only at q
        intro ω4 H4 x4 s4
        have hv4 := VR.up x4 (VR.up x3 hv2)
        cases hd : ev.dat st3 with
        | none => rw [hd] at q; exact q.elim
        | some d =>
          rw [hd] at q
          dsimp only at q
          have b := VR.bp s4 hv4 (by rw [EV.soft_dat]; exact hd)
          cases hg : cutD lo' hi' d with
          | none => rw [hg] at q; exact q.elim
          | some o =>
            rw [hg] at q
            have gv := Give.of s4 (OutE.up q (x13.trans x4))
            have dm := s4.dom
            rw [hB] at b gv
            unfold cutD at hg
            split at hg
            · cases hg
              obtain ⟨a, vs, rfl, sq, r⟩ := b.list_
              refine .inl ⟨a, vs, rfl, sq, fun p hp => ?_⟩
              have e1 : cutV vs lo' hi' = (vs.drop (HT.sIx vs.length 0 lo')).take (HT.sIx vs.length vs.length hi' - HT.sIx vs.length 0 lo') := rfl
              rw [e1, r.length]
              exact gv.lst dm hp ((r.drop _).take _)
            · cases hg
              cases b with
              | rp t =>
                cases t with
                | tup fz r =>
                  refine .inr (.inl ⟨_, _, rfl, fz.sq, fun w => ?_, fun w p hp => ?_⟩)
                  · have gv' := gv
                    unfold cutL at gv'
                    rw [← r.length, w.1, w.2, List.drop_zero, Nat.sub_zero, r.length, List.take_length] at gv'
                    exact gv'.here dm (.tup fz r)
                  · unfold cutV
                    rw [r.length]
                    exact gv.tup dm hp ((r.drop _).take _)
            · rename_i s
              split at hg
              · rename_i hl
                cases hg
                have k := b.ok_
                cases b.str_
                refine .inr (.inr ⟨s, rfl, Nat.le_trans hl lim_line, gv.here dm (.str _ (strOk_sub k fun c hc => ?_))⟩)
                unfold cutS at hc
                simp only [List.toList_toArray] at hc
                exact List.mem_of_mem_drop (List.mem_of_mem_take hc)
              · cases hg
            · cases hg
end
end Px
namespace Px
open PySem PySem.Spec PyProof.Rows L2

section
variable {X : Cx} {ct : Gx} {W : WX}
/-! ### a thing of the store is changed -/
theorem SR.put {B : Bs} {ω : Wd} {H : Hp} {σ : L2.St} {sl : Sls} {st : Sto} {n : Nat} {c : Cell} {p : Addr} {o : MO} {ho : HO} (s : SR B ω H σ sl st) (hc : st[n]? = some c) (hp : ω.ad[n]? = some p) (nf : ∀ d, c ≠ .fz d) (nF : ¬ ω.F p)
    (m : MOR B.K ω.F (upd H p ho) p o) : SR B ω (upd H p ho) σ sl (st.set n (putC c o)) ∧ Ext B ω H ω (upd H p ho) := by
  have po : Post B.K ω.F H [p] ω.F (upd H p ho) [o] := ⟨fun a h => ⟨h, upd_ne fun e => nF (e ▸ h)⟩, fun a u h hn => by rw [upd_ne fun e => hn (by rw [e]; exact List.mem_singleton_self p)]; exact h, fun a h => .inl h, fun a h => upd_some (s.dom a h), .cons ⟨nF, m⟩ .nil⟩
  have := s.called (ns := [n]) (by simp) (.cons ⟨hp, c, hc, nf⟩ .nil) po
  unfold putAll at this
  rw [hc] at this
  unfold putAll at this
  exact this
/-- the list that a cell holds, where it may be changed -/
def lstAt (st : Sto) (n : Nat) : Option (List PyData) := match st[n]? with
  | some (.live (.lst xs)) => some xs
  | some (.io (.lst xs)) => some xs
  | _ => none
def putAt (st : Sto) (n : Nat) (o : MO) : Sto := match st[n]? with
  | some c => st.set n (putC c o)
  | none => st
theorem lstAt_ok {B : Bs} {ω : Wd} {H : Hp} {σ : L2.St} {sl : Sls} {st : Sto} {n : Nat} {p : Addr} {xs : List PyData} (s : SR B ω H σ sl st) (hp : ω.ad[n]? = some p) (h : lstAt st n = some xs) :
    ∃ c vs, st[n]? = some c ∧ (∀ d, c ≠ .fz d) ∧ ¬ ω.F p ∧ H p = some (.lst vs) ∧ RpA B.K ω.F H vs xs := by
  unfold lstAt at h
  split at h
  · rename_i ys hc
    cases h
    obtain ⟨q1, vs, q2, q3⟩ := s.cell n _ p hc hp
    exact ⟨_, vs, hc, (fun d z => nomatch z), q1, q2, q3⟩
  · rename_i ys hc
    cases h
    obtain ⟨q1, vs, q2, q3⟩ := s.cell n _ p hc hp
    exact ⟨_, vs, hc, (fun d z => nomatch z), q1, q2, q3⟩
  · cases h
/-- xs.append(e) -/
def eApp (f g : FE) : FE := fun sl st => match f sl st with
  | .ok (.bor n) st1 => if lstAt st1 n = none then .fail else match g sl st1 with
    | .fail => .fail
    | .exc x st2 => .exc x st2
    | .ok ev st2 => match ev.fix st2 with
      | none => .fail
      | some (d, st3) => match lstAt st3 n with
        | none => .fail
        | some xs => if xs.length < Lim then .ok (.val .none) (putAt st3 n (.lst (xs ++ [d]))) else .fail
  | _ => .fail
theorem se_append {o e : Expr} {f g : FE} {apos cpos : Pos} (ho : SE X ct W o f) (he : SE X ct W e g) (hbase : attributeBase o "append" X.env (eval o X.env) = eval o X.env := by rfl)
    (hfew : ((backTo cpos (starEach [e] X.env)).all (fun x => !x.1) && (backToKw cpos (keywordEach [] X.env)).all (fun x => x.1.isSome) && decide (([e] : List Expr).length + ([] : List Keyword).length + (if ([] : List Keyword).isEmpty then 0 else 1) < 30)) = true := by rfl)
    (hline : (apos.endLine == cpos.line) = true := by rfl) (hs : starEach [e] X.env = (false, eval e X.env) :: starEach [] X.env := by rfl) (hplain : (backTo cpos (starEach ([] : List Expr) X.env)).any (·.1) = false := by rfl) :
    SE X ct W (.Call (.Attribute o "append" apos) [e] [] cpos) (eApp f g) := by
  intro B hB hc sl st
  refine pe_imp (pe_bm PySem.F.plainAttrs_list PySem.F.slot_list_append PySem.F.type_list_append mt_append (ho.all hB hc) (pa_cons (he.all hB hc) pa_nil hs) hbase hfew hline hs hplain) fun σ H Q ⟨ω, s, q⟩ => ⟨sl, st, ω, s, ?_⟩
  unfold eApp at q
  cases hf : f sl st with
  | fail => rw [hf] at q; exact q
  | exc x st1 => rw [hf] at q; exact q.elim
  | ok ev1 st1 =>
    rw [hf] at q
    intro v ω1 H1 x1 s1 hv
    cases ev1 with
    | val d => exact q.elim
    | new o => exact q.elim
    | bor n =>
      dsimp only at q
      obtain ⟨p, hp, rfl⟩ := hv
      cases hl0 : lstAt st1 n with
      | none => rw [if_pos hl0] at q; exact q.elim
      | some xs0 =>
      rw [if_neg (by rw [hl0]; intro z; cases z)] at q
      obtain ⟨c0, vs0, k01, k02, k03, k04, k05⟩ := lstAt_ok s1 hp hl0
      have ty : tyV X.K "list" (.ref p) H1 := .inl ⟨rfl, vs0, .of k04⟩
      cases hg : g sl st1 with
      | fail => rw [hg] at q; exact q.elim
      | exc x st2 =>
        rw [hg] at q
        refine ⟨ty, sl, st1, ω1, s1, ?_⟩
        rw [hg]
        exact fun cls d ω' H' e s' => q cls d ω' H' (x1.trans e) s'
      | ok ev st2 =>
        rw [hg] at q
        dsimp only at q
        refine ⟨ty, sl, st1, ω1, s1, ?_⟩
        rw [hg]
        intro u ω2 H2 x2 s2 hu
        cases hx : ev.fix st2 with
        | none => rw [hx] at q; exact q.elim
        | some pr =>
          obtain ⟨d, st3⟩ := pr
          rw [hx] at q
          dsimp only at q
          obtain ⟨ω3, x3, s3, r3⟩ := VR.fix s2 hu hx
          have x23 := x2.trans x3
          have hp3 : ω3.ad[n]? = some p := by
            obtain ⟨t, ht⟩ := x23.ad
            rw [← ht, List.getElem?_append_left (List.getElem?_eq_some_iff.mp hp).1]
            exact hp
          cases hl : lstAt st3 n with
          | none => rw [hl] at q; exact q.elim
          | some xs =>
            rw [hl] at q
            dsimp only at q
            by_cases hz : xs.length < Lim
            · rw [if_pos hz] at q
              obtain ⟨c3, vs, k1, k2, k3, k4, k5⟩ := lstAt_ok s3 hp3 hl
              have fr : Fr ω3.F H2 ω3.F (upd H2 p (.lst (vs ++ [u]))) := fun a h => ⟨h, upd_ne fun e => k3 (e ▸ h)⟩
              obtain ⟨s4, x4⟩ := s3.put (o := .lst (xs ++ [d])) k1 hp3 k2 k3 ⟨vs ++ [u], upd_same, (k5.append (.cons r3 .nil)).up fr⟩
              unfold putAt at q
              rw [k1] at q
              exact ⟨p, vs, u, rfl, rfl, k4, by rw [k5.length]; exact Nat.lt_of_lt_of_le hz lim_line, q .non ω3 _ ((x1.trans x23).trans x4) s4 .non⟩
            · rw [if_neg hz] at q; exact q.elim
/-- xs[i] = e -/
def sSetIx (fv fo fi : FE) : FS := fun sl st => match fv sl st with
  | .fail => .fail
  | .exc x st1 => .exc x sl st1
  | .ok ev st1 => match ev.fix st1 with
    | none => .fail
    | some (d, st2) => match fo sl st2 with
      | .ok (.bor n) st3 => match fi sl st3 with
        | .ok (.val (.int i)) st4 => match lstAt st4 n with
          | none => .fail
          | some xs => match ixN xs.length i with
            | none => .fail
            | some j => .nx sl (putAt st4 n (.lst (xs.set j d)))
        | _ => .fail
      | _ => .fail
theorem ss_setIx {o i e : Expr} {fv fo fi : FE} {pos p2 : Pos} (hv : SE X ct W e fv) (ho : SE X ct W o fo) (hi : SE X ct W i fi) (hs : swapsWithSole [.Subscript o i p2] e pos.line X.env = pure false := by rfl) (hw : swappedStores [.Subscript o i p2] e X.env = pure none := by rfl)
    (h1 : (assignEach [.Subscript o i p2] X.env).map (·.2) = [assign (.Subscript o i p2) X.env] := by rfl)
    (ha : ∀ v, assign (.Subscript o i p2) X.env v = (do
      let ov ← holding [v] (eval o X.env)
      let iv ← holding [v, ov] (eval i X.env)
      standAt p2
      holding [v, ov, iv] (setItem ov iv v)
      release [v, ov, iv] []) := by intro _; rfl) : SS X ct W (.Assign [.Subscript o i p2] e pos) (sSetIx fv fo fi) := by
  intro B hB hc sl st
  refine ps_imp (ps_asg (hv.all hB hc) (pg_sub (ho.all hB hc) (hi.all hB hc) set_list ha) hs hw h1) fun D σ H ⟨ω, s, q⟩ => ⟨sl, st, ω, s, ?_⟩
  unfold sSetIx at q
  cases hf : fv sl st with
  | fail => rw [hf] at q; exact q
  | exc x st1 => rw [hf] at q; exact fun cls d ω' H' e s' r => q cls d σ ω' H' e s' r
  | ok ev st1 =>
    rw [hf] at q
    dsimp only at q
    intro v ω1 H1 x1 s1 hv1
    cases hx : ev.fix st1 with
    | none => rw [hx] at q; exact q.elim
    | some pr =>
      obtain ⟨d, st2⟩ := pr
      rw [hx] at q
      dsimp only at q
      obtain ⟨ω2, x2, s2, r2⟩ := VR.fix s1 hv1 hx
      refine ⟨sl, st2, ω2, s2, ?_⟩
      cases hfo : fo sl st2 with
      | fail => rw [hfo] at q; exact q.elim
      | exc x st3 => rw [hfo] at q; exact q.elim
      | ok ev3 st3 =>
        rw [hfo] at q
        cases ev3 with
        | val _ => exact q.elim
        | new _ => exact q.elim
        | bor n =>
          dsimp only at q
          intro ov ω3 H3 x3 s3 ho3
          obtain ⟨p, hp, rfl⟩ := ho3
          refine ⟨sl, st3, ω3, s3, ?_⟩
          cases hfi : fi sl st3 with
          | fail => rw [hfi] at q; exact q.elim
          | exc x st4 => rw [hfi] at q; exact q.elim
          | ok ev4 st4 =>
            rw [hfi] at q
            cases ev4 with
            | bor _ => exact q.elim
            | new _ => exact q.elim
            | val d4 =>
              cases d4 with
              | int i =>
                dsimp only at q
                intro iv ω4 H4 x4 s4 hi4
                have hi4' : Rp B.K ω4.F H4 iv (.int i) := hi4
                cases hi4'
                have hp4 : ω4.ad[n]? = some p := by
                  obtain ⟨t, ht⟩ := x4.ad
                  rw [← ht, List.getElem?_append_left (List.getElem?_eq_some_iff.mp hp).1]
                  exact hp
                cases hl : lstAt st4 n with
                | none => rw [hl] at q; exact q.elim
                | some xs =>
                  rw [hl] at q
                  dsimp only at q
                  cases hj : ixN xs.length i with
                  | none => rw [hj] at q; exact q.elim
                  | some j =>
                    rw [hj] at q
                    dsimp only at q
                    obtain ⟨c4, vs, k1, k2, k3, k4, k5⟩ := lstAt_ok s4 hp4 hl
                    have fr : Fr ω4.F H4 ω4.F (upd H4 p (.lst (vs.set j v))) := fun a h => ⟨h, upd_ne fun e => k3 (e ▸ h)⟩
                    have r4 := (r2.up x3.fr).up x4.fr
                    obtain ⟨s5, x5⟩ := s4.put (o := .lst (xs.set j d)) k1 hp4 k2 k3 ⟨vs.set j v, upd_same, (RpA.set r4 j k5).up fr⟩
                    unfold putAt at q
                    rw [k1] at q
                    exact ⟨p, vs, i, j, rfl, rfl, k4, by rw [k5.length]; exact hj, q σ ω4 _ ((((x1.trans x2).trans x3).trans x4).trans x5) s5⟩
              | none => exact q.elim
              | bool _ => exact q.elim
              | str _ => exact q.elim
              | list _ => exact q.elim
              | tuple _ => exact q.elim
              | dict _ => exact q.elim
/-! ### raise, try -/
def sRaise (nm : String) : FS := fun sl st => .exc ⟨nm, none⟩ sl st
theorem ss_raise {C : Addr} {bmB : List Value} {Bn newId initId : String} {x m : Str} {j : Nat} {p p2 pos pos' : Pos} (nm : String) (hc : X.calm = true) (tk : Takes X W) (F : ExcBaseFacts Bn newId initId bmB) (q : PySem.W.excIn X.K C bmB newId = true) (gC : X.mg x = some (.ref C))
    (kC : PySem.W.keepIn X.K (.ref C) = true) (r : Raises X (.ref C)) (hg : Gl X x) (ht : ct.tab nm = some C) (hdb : (x == ("__debug__" : Str)) = false := by decide) : SS X ct W (.Raise (some (.Call (.Name x p) [.Constant (.str m) j p2] [] pos)) none pos') (sRaise nm) := by
  intro B hB hcc sl st
  exact ps_imp (ps_raise hc tk (pmk_own F q gC kC r hg hdb)) fun D σ H ⟨ω, s, q⟩ => q _ none σ ω H .refl s ⟨C, by rw [hcc]; exact ht, rfl, rfl, rfl⟩
/-- isinstance(e, C) of the exception that is handled; y: the class's name -/
def eIsE (i : Nat) (isx : Exn → Option Bool) : FE := fun sl st => match sl[i]? with
  | some (.hot x) => match isx x with
    | some b => .ok (.val (.bool b)) st
    | none => .fail
  | _ => .fail
/-- in an except suite: what is handled is of the class C0 at a -/
structure HotAt (X : Cx) (ct : Gx) (C0 : Addr) : Prop where
  is : ∀ {x y z : Str} {p p1 p2 pos : Pos} {C : Addr} {b : Bool} (i : Nat), X.N[i]? = some z → Vis X.env.scope z → (z == ("__debug__" : Str)) = false → (z == ("__classdict__" : Str)) = false → x = "isinstance" → Gl X x → X.mg x = none → Gl X y → X.mg y = some (.ref C) → (y == ("__debug__" : Str)) = false →
    PySem.W.kitOne X.K (.ref C0) (.ref C) = some b → starEach [.Name z p1, .Name y p2] X.env = (false, eval (.Name z p1) X.env) :: starEach [.Name y p2] X.env → starEach [.Name y p2] X.env = (false, eval (.Name y p2) X.env) :: starEach [] X.env → (backTo pos (starEach [.Name y p2] X.env)).any (·.1) = false →
    PE X (.Call (.Name x p) [.Name z p1, .Name y p2] [] pos) (fun σ H Q => σ[i]? = some (some (.ref ct.hot)) ∧ Q (.bl b) H)
/-! ### join -/
def strsOf : List PyData → Option (List Str)
  | [] => some []
  | .str b :: r => (strsOf r).map (b :: ·)
  | _ => none
theorem strsOf_rp {K : PySem.W.Frag} {F : Addr → Prop} {H : Hp} : ∀ {ds : List PyData} {vs : List V} {bs : List Str}, RpA K F H vs ds → strsOf ds = some bs → vs = bs.map V.str ∧ ∀ b ∈ bs, PyData.strOk b = true
  | [], _, bs, .nil, e => by cases e; exact ⟨rfl, fun b hb => by cases hb⟩
  | d :: ds, _, bs, .cons a r, e => by
    cases d with
    | str b =>
      unfold strsOf at e
      cases h : strsOf ds with
      | none => rw [h] at e; cases e
      | some bs2 =>
        rw [h] at e
        cases e
        cases a with
        | str _ k =>
          obtain ⟨h1, h2⟩ := strsOf_rp r h
          rw [h1]
          exact ⟨rfl, fun c hc => (List.mem_cons.mp hc).elim (fun z => by rw [z]; exact k) (h2 c)⟩
    | none => cases e
    | bool _ => cases e
    | int _ => cases e
    | list _ => cases e
    | tuple _ => cases e
    | dict _ => cases e
theorem joinL_mem {S : List Nat} : ∀ {ps : List (List Nat)} {c : Nat}, c ∈ TL.joinL S ps → c ∈ S ∨ ∃ p ∈ ps, c ∈ p
  | [], c, h => by cases h
  | [p], c, h => .inr ⟨p, List.mem_singleton_self p, h⟩
  | p :: q :: r, c, h => by
    have h' : c ∈ p ++ (S ++ TL.joinL S (q :: r)) := h
    rcases List.mem_append.mp h' with h' | h'
    · exact .inr ⟨p, List.mem_cons_self, h'⟩
    · rcases List.mem_append.mp h' with h' | h'
      · exact .inl h'
      · rcases joinL_mem h' with h' | ⟨x, hx, h'⟩
        · exact .inl h'
        · exact .inr ⟨x, List.mem_cons_of_mem _ hx, h'⟩
theorem join_ok {a : Str} {ys : List Str} (ha : PyData.strOk a = true) (h : ∀ b ∈ ys, PyData.strOk b = true) : PyData.strOk (Txt.join a ys) = true := by
  rw [strOk_iff]
  intro c hc
  rw [TL.join_eq] at hc
  have hc' : c ∈ TL.tl (Str.join a ys) := hc
  rw [TL.tl_join] at hc'
  rcases joinL_mem hc' with z | ⟨p, hp, z⟩
  · exact strOk_iff.mp ha c z
  · obtain ⟨b, hb, rfl⟩ := List.mem_map.mp hp
    exact strOk_iff.mp (h b hb) c z
def joinD (a : Str) : PyData → Option OR
  | .list ds => match strsOf ds with
    | none => none
    | some ys => if (ys.map (·.length)).sum + ys.length * a.length ≤ 16777216 then some (.val (.str (Txt.join a ys))) else none
  | .tuple ds => match strsOf ds with
    | none => none
    | some ys => if (ys.map (·.length)).sum + ys.length * a.length ≤ 16777216 then some (.val (.str (Txt.join a ys))) else none
  | _ => none
theorem se_join {a : Str} {j : Nat} {p0 apos pos : Pos} {e : Expr} {f : FE} (ka : PyData.strOk a = true) (he : SE X ct W e f) (hs : starEach [e] X.env = [(false, eval e X.env)] := by rfl)
    (hbase : attributeBase (.Constant (.str a) j p0) "join" X.env (eval (.Constant (.str a) j p0) X.env) = eval (.Constant (.str a) j p0) X.env := by rfl) (hline : (apos.endLine == pos.line) = true := by rfl) :
    SE X ct W (.Call (.Attribute (.Constant (.str a) j p0) "join" apos) [e] [] pos) (u1 (joinD a) f) := by
  refine se_u1 (fun ta ha => pe_imp (pe_join pe_str ha hs hbase hline) fun σ H Q h => ⟨⟨a, rfl⟩, h⟩) he fun F H v d o Q dm b e gv => ?_
  unfold joinD at e
  split at e
  · rename_i ds
    obtain ⟨q, vs, rfl, s, r⟩ := b.list_
    split at e
    · cases e
    · rename_i ys hy
      split at e
      · rename_i hl
        cases e
        obtain ⟨h1, h2⟩ := strsOf_rp r hy
        subst h1
        exact ⟨a, q, ys, rfl, rfl, .inl s, hl, gv.here dm (.str _ (join_ok ka h2))⟩
      · cases e
  · rename_i ds
    obtain ⟨q, vs, rfl, s, r⟩ := b.tup_
    split at e
    · cases e
    · rename_i ys hy
      split at e
      · rename_i hl
        cases e
        obtain ⟨h1, h2⟩ := strsOf_rp r hy
        subst h1
        exact ⟨a, q, ys, rfl, rfl, .inr s, hl, gv.here dm (.str _ (join_ok ka h2))⟩
      · cases e
  · cases e
/-! ### short words for the printed proofs -/
theorem hu64 {k : Nat} {A : Around} (hr : Room k A) : A.units + 64 < cLine := hr.units
theorem hu65 {k : Nat} {A : Around} (hr : Room k A) : A.units + 65 < cLine := by have := hr.un; omega
theorem bo_len : bootBuiltins "len" = some (.builtin "len") := by decide +kernel
theorem bo_all : bootBuiltins "all" = some (.builtin "all") := by decide +kernel
theorem bo_any : bootBuiltins "any" = some (.builtin "any") := by decide +kernel
theorem bo_sum : bootBuiltins "sum" = some (.builtin "sum") := by decide +kernel
theorem bo_max : bootBuiltins "max" = some (.builtin "max") := by decide +kernel
theorem bo_min : bootBuiltins "min" = some (.builtin "min") := by decide +kernel
theorem bo_repr : bootBuiltins "repr" = some (.builtin "repr") := by decide +kernel
theorem bo_sorted : bootBuiltins "sorted" = some (.builtin "sorted") := by decide +kernel
theorem bo_isinstance : bootBuiltins "isinstance" = some (.builtin "isinstance") := by decide +kernel
theorem bo_abs : bootBuiltins "abs" = some (.builtin "abs") := by decide +kernel
theorem bo_int : bootBuiltins "int" = some (.type "int") := by decide +kernel
theorem bo_str : bootBuiltins "str" = some (.type "str") := by decide +kernel
theorem bo_bool : bootBuiltins "bool" = some (.type "bool") := by decide +kernel
theorem bo_list : bootBuiltins "list" = some (.type "list") := by decide +kernel
theorem bo_tuple : bootBuiltins "tuple" = some (.type "tuple") := by decide +kernel
theorem bo_dict : bootBuiltins "dict" = some (.type "dict") := by decide +kernel
theorem bo_set : bootBuiltins "set" = some (.type "set") := by decide +kernel
theorem bo_range : bootBuiltins "range" = some (.type "range") := by decide +kernel
theorem bo_zip : bootBuiltins "zip" = some (.type "zip") := by decide +kernel
theorem bo_enumerate : bootBuiltins "enumerate" = some (.type "enumerate") := by decide +kernel
end
end Px
namespace Px
open PySem PySem.Spec PyProof.Rows L2

section
variable {X : Cx} {ct : Gx} {W : WX}
/-! ### try: .. except C as e: .. -/
def unhot (i : Nat) : RS → RS
  | .nx sl st => .nx (sl.set i .non) st
  | .bk sl st => .bk (sl.set i .non) st
  | .ct sl st => .ct (sl.set i .non) st
  | .rt d st => .rt d st
  | _ => .fail
def sTry (i : Nat) (cat : Exn → Option Bool) (g1 g2 : FS) : FS := fun sl st => match g1 sl st with
  | .exc x sl1 st1 => match cat x with
    | some true => unhot i (g2 (sl1.set i (.hot x)) st1)
    | some false => .exc x sl1 st1
    | none => .fail
  | r => r
def Gx.at (g : Gx) (a : Addr) (x : Exn) : Gx := { g with hot := a, hx := x }
def Bs.at (B : Bs) (a : Addr) (x : Exn) : Bs := { B with ct := B.ct.at a x }
theorem SR.hot {B : Bs} {ω : Wd} {H : Hp} {σ : L2.St} {sl : Sls} {st : Sto} (s : SR B ω H σ sl st) (nh : ∀ (i : Nat) (x : Exn), sl[i]? ≠ some (.hot x)) (a : Addr) (x : Exn) : SR (B.at a x) ω H σ sl st :=
  ⟨s.len, s.dom, s.keep, s.newF, s.oldF, s.adl, s.nd, s.iop, s.adn, s.ioc, s.ioc2, s.there, s.prF, s.prA, s.prH, fun i t h => by
    have r := s.slot i t h
    cases t with
    | non => exact r
    | val d => exact r
    | ref n => exact r
    | hot y => exact absurd h (nh i y), s.cell⟩
theorem SR.unhot {B : Bs} {ω : Wd} {H : Hp} {σ : L2.St} {sl : Sls} {st : Sto} {a : Addr} {x : Exn} (s : SR (B.at a x) ω H σ sl st) (nh : ∀ (i : Nat) (x : Exn), sl[i]? ≠ some (.hot x)) : SR B ω H σ sl st :=
  ⟨s.len, s.dom, s.keep, s.newF, s.oldF, s.adl, s.nd, s.iop, s.adn, s.ioc, s.ioc2, s.there, s.prF, s.prA, s.prH, fun i t h => by
    have r := s.slot i t h
    cases t with
    | non => exact r
    | val d => exact r
    | ref n => exact r
    | hot y => exact absurd h (nh i y), s.cell⟩
/-- no slot holds an exception -/
def cold (sl : Sls) : Bool := sl.all fun s => match s with
  | .hot _ => false
  | _ => true
theorem cold_not {sl : Sls} (h : cold sl = true) : ∀ (i : Nat) (x : Exn), sl[i]? ≠ some (.hot x) := fun i x e => by
  have := List.all_eq_true.mp h _ (List.mem_of_getElem? e)
  cases this
/-- as sTry, where the suite always hands back -/
def sTryRet (i : Nat) (cat : Exn → Option Bool) (g1 g2 : FS) : FS := fun sl st => match g1 sl st with
  | .exc x sl1 st1 => match cat x with
    | some true => if cold sl1 = true then (match g2 (sl1.set i (.hot x)) st1 with
      | .rt d st2 => .rt d st2
      | _ => .fail) else .fail
    | some false => .exc x sl1 st1
    | none => .fail
  | r => r
theorem ss_try (i : Nat) (cat : Exn → Option Bool) {x n : Str} {c : Value} {body suite : List Stmt} {b₀ : Stmt} {np pos pos' : Pos} {g1 g2 : FS} (hs : X.stack = X.env :: X.outer) (hf : X.env.frame = some X.env.locals) (hN : X.N.Nodup) (hi : X.N[i]? = some n) (hln : X.env.kindOf n = some .local)
    (hc : Names X x c) (tk : Takes X W) (hcat : ∀ (y : Exn) (C : Addr) (b : Bool), ct.tab y.nm = some C → cat y = some b → PySem.W.exmOne X.K (.ref C) c = some b)
    (hb : ∀ (W' : WX) (pn : List (Addr × Obj)) (xe : Value → Shared → Prop), Takes (X.tr pn xe) W' → PassesOwn (model X.prog X.w) X.A X.env xe → SSs (X.tr pn xe) ct W' body g1)
    (hsu : ∀ (a : Addr) (oe : Obj) (C : Addr) (y : Exn) (pn : List (Addr × Obj)), ct.tab y.nm = some C → Zc (.ref C) none oe → (∃ vs, oe.data = .fields vs) → SSs (X.suite a ((a, oe) :: pn)) (ct.at a y) W0 (b₀ :: suite) g2) :
    SS X ct W (.Try body [.ExceptHandler (some (.Name x np)) (some n) (b₀ :: suite) pos'] [] [] pos) (sTryRet i cat g1 g2) := by
  intro B hB hct sl st
  refine ps_imp (ps_try_as (ts := fun a cls d D σ H => ∃ (y : Exn) (C : Addr) (sl1 : Sls) (st1 : Sto) (ω : Wd), ct.tab y.nm = some C ∧ cls = .ref C ∧ d = none ∧ SR (B.at a y) ω H σ sl1 st1 ∧ OutS (B.at a y) W0 ω H (g2 sl1 st1) D) hs hf hN hi hln hc tk
    (tb := fun W' D σ H => ∃ ω, SR B ω H σ sl st ∧ OutS B W' ω H (g1 sl st) D) (fun W' pn xe tk' hp => hb W' pn xe tk' hp B hB hct sl st) fun a oe cls d pn hz hd => ?_) fun D σ H ⟨ω, s, q⟩ => ⟨ω, s, ?_⟩
  · refine ⟨fun pins s1 σ1 H1 D I ⟨y, C, sl1, st1, ω, h1, h2, h3, s, q⟩ => ?_⟩
    subst h2
    subst h3
    exact (hsu a oe C y pn h1 hz hd (B.at a y) hB (by show B.ct.at a y = _; rw [hct]) sl1 st1).run pins s1 σ1 H1 D I ⟨ω, s, q⟩
  · unfold sTryRet at q
    cases h1 : g1 sl st with
    | fail => rw [h1] at q; exact q
    | nx sl1 st1 => rw [h1] at q; exact q
    | bk sl1 st1 => rw [h1] at q; exact q
    | ct sl1 st1 => rw [h1] at q; exact q
    | rt d st1 => rw [h1] at q; exact q
    | rn d st1 => rw [h1] at q; exact q
    | exc y sl1 st1 =>
      rw [h1] at q
      dsimp only at q
      intro cls d σ1 ω1 H1 e1 s1 r1
      obtain ⟨C, k1, k2, k3, k4⟩ := r1
      subst k2
      subst k3
      have k1' : ct.tab y.nm = some C := by rw [← hct]; exact k1
      cases hk : cat y with
      | none => rw [hk] at q; exact q.elim
      | some b =>
        rw [hk] at q
        refine ⟨b, hcat y C b k1' hk, fun hb1 a ha => ?_, fun hb1 => ?_⟩
        · subst hb1
          dsimp only at q
          by_cases hcold : cold sl1 = true
          · rw [if_pos hcold] at q
            have sh := s1.hot (cold_not hcold) a y
            refine ⟨y, C, sl1.set i (.hot y), st1, ω1, k1', rfl, rfl, sh.set (v := .ref a) ⟨rfl, rfl⟩, ?_⟩
            cases h2 : g2 (sl1.set i (.hot y)) st1 with
            | rt dd st2 =>
              rw [h2] at q
              intro v σ2 ω2 H2 sl2 e2 s2 r2
              refine q v σ2 ω2 H2 (sl2.map fun t => match t with | .hot _ => .non | t => t) (e1.trans ⟨e2.fr, e2.ad, e2.pr⟩) ?_ r2
              refine ⟨by rw [List.length_map]; exact s2.len, s2.dom, s2.keep, s2.newF, s2.oldF, s2.adl, s2.nd, s2.iop, s2.adn, s2.ioc, s2.ioc2, s2.there, s2.prF, s2.prA, s2.prH, fun j t h => ?_, s2.cell⟩
              rw [List.getElem?_map] at h
              cases hj : sl2[j]? with
              | none => rw [hj] at h; cases h
              | some u =>
                rw [hj] at h
                have r := s2.slot j u hj
                cases u with
                | non => cases h; exact r
                | val d => cases h; exact r
                | ref n => cases h; exact r
                | hot z => cases h; exact trivial
            | fail => rw [h2] at q; exact q.elim
            | rn _ _ => rw [h2] at q; exact q.elim
            | nx _ _ => rw [h2] at q; exact q.elim
            | bk _ _ => rw [h2] at q; exact q.elim
            | ct _ _ => rw [h2] at q; exact q.elim
            | exc _ _ _ => rw [h2] at q; exact q.elim
          · rw [if_neg hcold] at q; exact q.elim
        · subst hb1
          exact q (.ref C) none σ1 ω1 H1 e1 s1 ⟨C, k1, rfl, rfl, k4⟩
/-- isinstance(e, C) in the suite -/
theorem se_isE {a D : Addr} {oe : Obj} {pn : List (Addr × Obj)} {y : Exn} {C : Addr} {x z cl : Str} {p p1 p2 pos : Pos} (i : Nat) (isx : Exn → Option Bool) (EC : ExcC X.K D) (hz : Zc (.ref D) none oe) (hf : ∃ vs, oe.data = .fields vs) (hx : x = "isinstance") (hg : Gl X x) (hm : X.mg x = none)
    (hi : X.N[i]? = some z) (hv : Vis X.env.scope z) (gc : Gl X cl) (mc : X.mg cl = some (.ref C)) (hk : ∀ b, isx y = some b → PySem.W.kitOne X.K (.ref D) (.ref C) = some b) (dz : (z == ("__debug__" : Str)) = false := by decide) (cz : (z == ("__classdict__" : Str)) = false := by decide)
    (dc : (cl == ("__debug__" : Str)) = false := by decide) (hs : starEach [.Name z p1, .Name cl p2] X.env = (false, eval (.Name z p1) X.env) :: starEach [.Name cl p2] X.env := by rfl) (hs2 : starEach [.Name cl p2] X.env = (false, eval (.Name cl p2) X.env) :: starEach [] X.env := by rfl)
    (hpl : (backTo pos (starEach [.Name cl p2] X.env)).any (·.1) = false := by rfl) : SE (X.suite a ((a, oe) :: pn)) (ct.at a y) W0 (.Call (.Name x p) [.Name z p1, .Name cl p2] [] pos) (eIsE i isx) := by
  subst hx
  intro B hB hct sl st
  refine pe_imp (pe_callB (X := X.suite a ((a, oe) :: pn)) (call_isE EC hz hf) hg hm bo_isinstance (pa_cons (pe_var hi hv dz cz) (pa_cons (pe_glob gc mc (show RelV (.ref C) (.ref C) from rfl) dc) pa_nil hs2) hs) (by decide) (by decide) hs hpl) fun σ H Q ⟨ω, s, q⟩ => ?_
  unfold eIsE at q
  cases hsl : sl[i]? with
  | none => rw [hsl] at q; exact q.elim
  | some t =>
    rw [hsl] at q
    have r := s.slot i t hsl
    cases t with
    | non => exact q.elim
    | val d => exact q.elim
    | ref n => exact q.elim
    | hot y' =>
      obtain ⟨r1, r2⟩ := r
      rw [hct] at r1 r2
      have r2' : y' = y := r2
      subst r2'
      dsimp only at q
      cases hb : isx y' with
      | none => rw [hb] at q; exact q.elim
      | some b =>
        rw [hb] at q
        exact ⟨.ref a, r1, .ref C, .ref C, b, rfl, fun u hu => hu, hk b hb, q (.bl b) ω H .refl s (.bl b)⟩
end
end Px
/-! PxM: nothing said of what is not reached; slices with a step -/
theorem Px.fm_congr {α β : Type} {f g : α → Option β} : ∀ {l : List α}, (∀ x ∈ l, f x = g x) → l.filterMap f = l.filterMap g
  | [], _ => rfl
  | a :: l, h => by
    rw [List.filterMap_cons, List.filterMap_cons, h a List.mem_cons_self, Px.fm_congr fun x hx => h x (List.mem_cons_of_mem _ hx)]
namespace HT
open PySem PySem.Spec PyProof.Rows
section
variable {prog : Program} {w : World} {A : Around} {E : Value → Shared → Prop} {s : Shared}
theorem sliceApplied_rev {sl : Addr} {vl vu vs : Value} {n : Nat} {Q : Int × Int × Nat → Shared → Prop} (hs : s.heap.IsSliceOf sl vl vu vs) (pl : IsPart vl none) (pu : IsPart vu none) (ps : IsPart vs (some (-1)))
    (h : Q ((n : Int) - 1, -1, n) s) : wpAny (model prog w) A (Builtin.Slice.sliceApplied (.ref sl) (pure (n : Int))) Q E s := by
  obtain ⟨os, hos, hcs, hds⟩ := id hs
  unfold Builtin.Slice.sliceApplied Builtin.Slice.sliceFields
  refine wpAny_bind (wpAny_bind (wpAny_field hos hds (x := vl) rfl (wpAny_bind (wpAny_field hos hds (x := vu) rfl (wpAny_bind (wpAny_field hos hds (x := vs) rfl (wpAny_pure ?_)))))))
  refine wpAny_bind (slicePart_ ps ?_)
  show wpAny _ _ (if ((-1 : Int) == 0) = true then _ else _) _ _ s
  rw [if_neg (by decide)]
  refine wpAny_bind (slicePart_ pl (wpAny_bind (slicePart_ pu (wpAny_bind (wpAny_pure ?_)))))
  show wpAny _ _ (pure ((n : Int) - 1, (-1 : Int), Builtin.Slice.slicePlaces ((n : Int) - 1) (-1) (-1))) _ _ s
  have e : Builtin.Slice.slicePlaces ((n : Int) - 1) (-1) (-1) = n := by
    unfold Builtin.Slice.slicePlaces
    have h1 : ¬ ((-1 : Int) > 0) := by decide
    simp only [h1, if_false]
    by_cases h2 : (n : Int) - 1 > -1
    · rw [if_pos h2, show (- -1 : Int) = 1 by decide, Int.ediv_one]
      omega
    · rw [if_neg h2]; omega
  rw [e]
  exact wpAny_pure h
theorem pick_rev (xs : Array Value) : ((List.range xs.size).filterMap fun (k : Nat) => xs[((xs.size : Int) - 1 + (k : Int) * (-1)).toNat]?).toArray = xs.toList.reverse.toArray := by
  have h := PySem.W.krv_pick xs
  unfold slicePick at h
  rw [PySem.W.krv_bounds] at h
  rw [← h]
  show _ = ((sliceRange ((xs.size : Int) - 1) (-1) (-1)).filterMap (xs[·]?)).toArray
  rw [PySem.W.krv_sliceRange, List.filterMap_map]
  congr 1
  apply Px.fm_congr
  intro k hk
  have := List.mem_range.mp hk
  show xs[((xs.size : Int) - 1 + (k : Int) * (-1)).toNat]? = xs[xs.size - 1 - k]?
  congr 1
  omega
theorem getItem_tuple_rev {t sl : Addr} {items : Array Value} {vl vu vs : Value} {Q : Value → Shared → Prop} (ht : IsTup s.heap t items) (hs : s.heap.IsSliceOf sl vl vu vs) (pl : IsPart vl none) (pu : IsPart vu none) (ps : IsPart vs (some (-1)))
    (h : Q (.ref s.heap.objs.size) { s with heap := s.heap.push { cls := .type "tuple", data := .seq items.toList.reverse.toArray } })
    (hsz : items.size ≤ sizeLine) : wpAny (model prog w) A (getItem (.ref t) (.ref sl)) Q E s := by
  have htake : sizeOk (.seq items.toList.reverse.toArray) := by
    show items.toList.reverse.toArray.size ≤ sizeLine
    rw [List.size_toArray, List.length_reverse, Array.length_toList]
    exact hsz
  obtain ⟨os, hos, hcs, hds⟩ := id hs
  have hTs : s.TypeIs (.ref sl) "slice" := ⟨os, hos, hcs⟩
  unfold getItem
  try with_reducible refine wpAny_holding ?_
  first | refine wpAny_bind (wpAny_pure ?_) | skip
  refine wpAny_bind (wpAny_sequenceKey ht.typeIs (by decide) ?_)
  refine wpAny_bind (wpAny_callSpecial?_slot (name := Str.ofString "__getitem__") ht.typeIs PyProof.Rows.slot_tuple_getitem
    (wpAny_call_entry PyProof.Rows.slot_tuple_getitem ht.typeIs entry_tuple_getitem ?_ (args_tuple_getitem _ _)))
  show wpAny _ _ (Builtin.Tuple.tupleItemsOf (.ref t) >>= _) _ _ s
  refine wpAny_bind (tupleItemsOf_ ht ?_)
  refine wpAny_bind (wpAny_typeOf hTs ?_)
  rw [if_pos (by decide)]
  refine wpAny_bind (sliceApplied_rev hs pl pu ps ?_)
  have hno : ¬ (((((items.size : Int) - 1) == 0 && (-1 : Int) == 1) && items.size == items.size) = true) := by
    intro q
    rw [Bool.and_eq_true, Bool.and_eq_true] at q
    have q1 : (-1 : Int) = 1 := eq_of_beq q.1.2
    omega
  show wpAny _ _ (if ((((items.size : Int) - 1) == 0 && (-1 : Int) == 1) && items.size == items.size) = true then _ else _) _ _ s
  rw [if_neg hno, pick_rev]
  first
    | exact wpAny_bind (m := Builtin.Tuple.tupleExact _) (wpAny_newObj_type (wpAny_pure ⟨_, rfl, wpAny_pure h⟩) htake)
    | exact wpAny_bind (m := Builtin.Tuple.tupleExact _) (wpAny_newObj_type (wpAny_bind (wpAny_pure (wpAny_pure ⟨_, rfl, wpAny_pure h⟩))) htake)
    | exact wpAny_bind (wpAny_bind (m := Builtin.Tuple.tupleExact _) (wpAny_newObj_type (wpAny_pure (wpAny_pure ⟨_, rfl, wpAny_pure h⟩)) htake))
    | exact wpAny_bind (wpAny_bind (m := Builtin.Tuple.tupleExact _) (wpAny_newObj_type (wpAny_pure ⟨_, rfl, wpAny_pure h⟩) htake))
end
end HT
namespace Px
open PySem PySem.Spec PyProof.Rows L2
section
variable {X : Cx} {ct : Gx} {W : WX}

/-! ### what is not reached -/
def eFail : FE := fun _ _ => .fail
def sFail : FS := fun _ _ => .fail
theorem se_any {e : Expr} : SE X ct W e eFail := fun B hB hc sl st => ⟨fun pins s σ H Q I ⟨_, _, h⟩ => h.elim⟩
theorem ss_any {e : Stmt} : SS X ct W e sFail := fun B hB hc sl st => ⟨fun pins s σ H Q I ⟨_, _, h⟩ => h.elim⟩

/-! ### x[lo:hi:st] -/
abbrev R3 := V → Option Int → Option Int → Option Int → Hp → VK → Prop
def SlR3 (X : Cx) (r : R3) : Prop :=
  ∀ (pins : List (Addr × Obj)) (s : Shared) (σ : L2.St) (H : Hp) (x : V) (v vl vu vs : Value) (lo hi st : Option Int) (sl : Addr) (Q : VK), Inv X pins σ H s → RelV x v → s.heap.IsSliceOf sl vl vu vs → IsPart vl lo → IsPart vu hi → IsPart vs st → r x lo hi st H Q →
    ∃ T id, typeLookup (.type T) "__getitem__" = pure (some (.builtin id)) ∧ s.TypeIs v T ∧ wpAny (model X.prog X.w) X.A (getItem v (.ref sl)) (EP X pins σ Q) X.xe s
theorem SlR3.or {r r' : R3} (h : SlR3 X r) (h' : SlR3 X r') : SlR3 X (fun x lo hi st H Q => r x lo hi st H Q ∨ r' x lo hi st H Q) := by
  intro pins s σ H x v vl vu vs lo hi st sl Q I rx hs pl pu ps q
  rcases q with q | q
  · exact h pins s σ H x v vl vu vs lo hi st sl Q I rx hs pl pu ps q
  · exact h' pins s σ H x v vl vu vs lo hi st sl Q I rx hs pl pu ps q
def tSl3 (r : R3) (te : TE) (tl th ts : TO) : TE := fun σ H Q => te σ H fun x H1 => tl σ H1 fun l H2 => th σ H2 fun u H3 => ts σ H3 fun o H4 => r x l u o H4 Q
theorem pe_slice3 {r : R3} {e se : Expr} {lo hi : Option Expr} {te : TE} {tl th ts : TO} {pos p2 : Pos} (hr : SlR3 X r) (he : PE X e te) (hl : PO X lo tl) (hu : PO X hi th) (hst : PO X (some se) ts) : PE X (.Subscript e (.Slice lo hi (some se) p2) pos) (tSl3 r te tl th ts) := by
  refine ⟨fun pins s σ H Q I h => ?_⟩
  refine Subscript_ (thn (he.run pins s σ H _ I h) fun v s1 ⟨x, H1, I1, r1, q1⟩ => ?_)
  refine wpAny_Slice (thn (hl.run pins s1 σ H1 _ I1 q1) fun vl s2 ⟨l, H2, I2, pl, q2⟩ => thn (hu.run pins s2 σ H2 _ I2 q2) fun vu s3 ⟨u, H3, I3, pu, q3⟩ => thn (hst.run pins s3 σ H3 _ I3 q3) fun vs s4 ⟨o, H4, I4, ps, q4⟩ => ?_)
  have I5 : Inv X pins σ H4 { s4 with heap := s4.heap.push { cls := .type "slice", data := .fields #[vl, vu, vs] } } := I4.kept (t' := s4.toks) fun b ob q => Heap.get?_push_of_some _ q
  obtain ⟨T, id, hT, ht, hg⟩ := hr pins { s4 with heap := s4.heap.push { cls := .type "slice", data := .fields #[vl, vu, vs] } } σ H4 x v vl vu vs l u o s4.heap.objs.size Q I5 r1 (Heap.IsSliceOf.new ..) pl pu ps q4
  show wpAny (model X.prog X.w) X.A (subscriptTail e (.Slice lo hi (some se) p2) v (.ref s4.heap.objs.size)) (EP X pins σ Q) X.xe { s4 with heap := s4.heap.push { cls := .type "slice", data := .fields #[vl, vu, vs] } }
  exact tail_any (ops := [v, .ref s4.heap.objs.size]) ht hT hg (by with_unfolding_all rfl)
def pickL {α : Type} (xs : List α) (lo hi st : Option Int) : List α :=
  (sliceRange (sliceBounds lo hi st xs.length).1 (sliceBounds lo hi st xs.length).2.1 (sliceBounds lo hi st xs.length).2.2).filterMap (xs[·]?)
theorem vals_get : ∀ {xs : List V} {us : List Value} {k : Nat} {x : V}, Vals xs us → xs[k]? = some x → ∃ u, us[k]? = some u ∧ RelV x u
  | _, _, _, _, .nil, e => by simp at e
  | _, _, 0, _, .cons a _, e => by simp at e; subst e; exact ⟨_, rfl, a⟩
  | _, _, k + 1, x, .cons _ r, e => by
    obtain ⟨v, h1, h2⟩ := vals_get (k := k) (x := x) r (by simpa using e)
    exact ⟨v, by simpa using h1, h2⟩
theorem vals_pickN {xs : List V} {us : List Value} (r : Vals xs us) : ∀ (ks : List Nat), Vals (ks.filterMap (xs[·]?)) (ks.filterMap (us[·]?))
  | [] => .nil
  | k :: ks => by
    have ih := vals_pickN r ks
    have hl := r.length
    by_cases hk : k < xs.length
    · obtain ⟨u, h1, h2⟩ := vals_get r (List.getElem?_eq_getElem hk)
      rw [List.filterMap_cons_some (List.getElem?_eq_getElem hk), List.filterMap_cons_some h1]
      exact .cons h2 ih
    · rw [List.filterMap_cons_none (List.getElem?_eq_none (by omega)), List.filterMap_cons_none (List.getElem?_eq_none (by omega))]
      exact ih
theorem rp_pickN {K : PySem.W.Frag} {F : Addr → Prop} {H : Hp} {xs : List V} {us : List PyData} (r : RpA K F H xs us) : ∀ (ks : List Nat), RpA K F H (ks.filterMap (xs[·]?)) (ks.filterMap (us[·]?))
  | [] => .nil
  | k :: ks => by
    have ih := rp_pickN r ks
    have hl := r.length
    by_cases hk : k < us.length
    · obtain ⟨u, h1, h2⟩ := r.get (List.getElem?_eq_getElem hk)
      rw [List.filterMap_cons_some h1, List.filterMap_cons_some (List.getElem?_eq_getElem hk)]
      exact .cons h2 ih
    · rw [List.filterMap_cons_none (List.getElem?_eq_none (by omega)), List.filterMap_cons_none (List.getElem?_eq_none (by omega))]
      exact ih
theorem slicePick_eq (us : List Value) (lo hi st : Option Int) : slicePick us.toArray lo hi st = (pickL us lo hi st).toArray := by
  unfold slicePick pickL
  rw [List.size_toArray]
  congr 1
  apply Px.fm_congr
  intro k _
  rw [List.getElem?_toArray]
def r3L (K : PySem.W.Frag) : R3 := fun x lo hi st H Q => ∃ a xs, x = .ref a ∧ SqL K H a xs ∧ st ≠ some 0 ∧ ∀ p, H p = none → Q (.ref p) (upd H p (.lst (pickL xs lo hi st)))
theorem sl3_list : SlR3 X (r3L X.K) := by
  intro pins s σ H x v vl vu vs lo hi st sl Q I rx hs pl pu ps h
  obtain ⟨a, xs, rfl, hx, h0, q⟩ := h
  cases rx
  obtain ⟨its, r, ht, hz⟩ := I.list hx
  have hlen := r.length
  have hsz : its.toArray.size ≤ sizeLine := by rw [List.size_toArray]; omega
  refine ⟨"list", _, PySem.slot_list_getitem.lookup, ht.isList.typeIs, ?_⟩
  refine wpAny_getItem_list_slice ht.isList hs pl pu ps h0 ?_ hsz
  have hpl := slicePick_size_le its.toArray lo hi st
  have rr : Vals (pickL xs lo hi st) (slicePick its.toArray lo hi st).toList := by
    rw [slicePick_eq]
    unfold pickL
    rw [hlen]
    exact vals_pickN r _
  refine ⟨.ref _, _, I.laid (t' := s.toks) (o := .lst (pickL xs lo hi st)) (fun b ob q => Heap.get?_push_of_some _ q) (Nat.le_refl _) ?_, rfl, q _ (I.hok.fresh (Nat.le_refl _))⟩
  refine ⟨?_, _, 0, rr, Heap.get?_push_size _ rfl⟩
  rw [rr.length, Array.length_toList]
  omega
def r3T (K : PySem.W.Frag) : R3 := fun x lo hi st H Q => lo = none ∧ hi = none ∧ st = some (-1) ∧ ∃ a xs, x = .ref a ∧ SqT K H a xs ∧ ∀ p, H p = none → Q (.ref p) (upd H p (.tup xs.reverse))
theorem sl3_tup : SlR3 X (r3T X.K) := by
  intro pins s σ H x v vl vu vs lo hi st sl Q I rx hs pl pu ps h
  obtain ⟨rfl, rfl, rfl, a, xs, rfl, hx, q⟩ := h
  cases rx
  obtain ⟨its, r, ht, hz⟩ := I.tuple hx
  refine ⟨"tuple", _, PyProof.Rows.slot_tuple_getitem.lookup, ht.typeIs, ?_⟩
  refine HT.getItem_tuple_rev ht hs pl pu ps ?_ (by rw [List.size_toArray, ← r.length]; exact hz)
  refine ⟨.ref s.heap.objs.size, _, I.laid (t' := s.toks) (o := .tup xs.reverse) (fun b ob q => Heap.get?_push_of_some _ q) (Nat.le_refl _) ?_, rfl, q _ (I.hok.fresh (Nat.le_refl _))⟩
  exact ⟨by rw [List.length_reverse]; exact hz, _, r.reverse, IsTup.new _ _⟩
def revS (z : Str) : Str := ⟨z.cps.toList.reverse.toArray⟩
def r3S : R3 := fun x lo hi st H Q => lo = none ∧ hi = none ∧ st = some (-1) ∧ ∃ z, x = .str z ∧ z.length ≤ sizeLine ∧ Q (.str (revS z)) H
theorem sl3_str : SlR3 X r3S := by
  intro pins s σ H x v vl vu vs lo hi st sl Q I rx hs pl pu ps h
  obtain ⟨rfl, rfl, rfl, z, rfl, hz, q⟩ := h
  obtain ⟨t, rfl⟩ := rx
  obtain ⟨os, hos, hcs, hds⟩ := hs
  obtain ⟨l, rfl, el⟩ := IsPart.raw pl
  obtain ⟨u, rfl, eu⟩ := IsPart.raw pu
  obtain ⟨o, rfl, eo⟩ := IsPart.raw ps
  refine ⟨"str", _, F.slot_str_getitem.lookup, typeIs_str _ _ _, ?_⟩
  refine wpAny_getItem_str_slice (l := l) (u := u) (st := o) ⟨os, hos, hcs, hds⟩ (by rw [eo]; rfl) ?_
  unfold sliceMade slicePicked
  rw [el, eu, eo]
  have e : ((Builtin.Str.strSliceIndices none none ((some (-1 : Int)).getD 1) z.length).filterMap (z.cps[·]?)).toArray = z.cps.toList.reverse.toArray := by
    show ((sliceRange ((z.cps.size : Int) - 1) (-1) (-1)).filterMap (z.cps[·]?)).toArray = _
    rw [PySem.W.krv_sliceRange, PySem.W.krv_range, List.filterMap_reverse, PySem.W.krv_all]
  have hno : ¬ ((((some (-1 : Int)).getD 1) == 1 && (Builtin.Str.strSliceIndices none none ((some (-1 : Int)).getD 1) z.length).length == z.length) = true) := by
    intro q
    rw [Bool.and_eq_true] at q
    exact absurd q.1 (by decide)
  rw [if_neg hno, e]
  have hl : (revS z).length ≤ sizeLine := by
    show z.cps.toList.reverse.toArray.size ≤ _
    rw [List.size_toArray, List.length_reverse, Array.length_toList]
    exact hz
  exact ⟨hl, .str _, H, I.tok _, ⟨_, rfl⟩, q⟩
def cutD3 (lo hi st : Option Int) : PyData → Option OR
  | .list ds => if st = some 0 then none else some (.new (.lst (pickL ds lo hi st)))
  | .tuple ds => if lo = none ∧ hi = none ∧ st = some (-1) then some (.val (.tuple ds.reverse)) else none
  | .str s => if lo = none ∧ hi = none ∧ st = some (-1) ∧ s.length ≤ Lim then some (.val (.str (revS s))) else none
  | _ => none
def eCut3 (f : FE) (l h o : FO) : FE := fun sl st => match f sl st with
  | .fail => .fail
  | .exc x st1 => .exc x st1
  | .ok ev st1 => match l sl st1 with
    | .fail => .fail
    | .exc x st2 => .exc x st2
    | .ok lo st2 => match h sl st2 with
      | .fail => .fail
      | .exc x st3 => .exc x st3
      | .ok hi st3 => match o sl st3 with
        | .fail => .fail
        | .exc x st4 => .exc x st4
        | .ok so st4 => match ev.dat st4 with
          | none => .fail
          | some d => match cutD3 lo hi so d with
            | none => .fail
            | some r => .ok r.ev st4
theorem se_cut3 {e se : Expr} {lo hi : Option Expr} {f : FE} {l h o : FO} {pos p2} (he : SE X ct W e f) (hl : SO X ct W lo l) (hh : SO X ct W hi h) (ho : SO X ct W (some se) o) : SE X ct W (.Subscript e (.Slice lo hi (some se) p2) pos) (eCut3 f l h o) := by
  intro B hB hc sl st
  refine pe_imp (pe_slice3 (SlR3.or sl3_list (SlR3.or sl3_tup sl3_str)) (he.all hB hc) (hl B hB hc) (hh B hB hc) (ho B hB hc)) fun σ H Q ⟨ω, s, q⟩ => ⟨sl, st, ω, s, ?_⟩
  unfold eCut3 at q
  cases hf : f sl st with
  | fail => rw [hf] at q; exact q
  | exc x st1 => rw [hf] at q; exact q
  | ok ev st1 =>
    rw [hf] at q
    dsimp only at q
    intro v ω1 H1 x1 s1 hv
    obtain ⟨ω2, x2, s2, hv2⟩ := VR.soft s1 hv
    have x12 := x1.trans x2
    refine ⟨sl, st1, ω2, s2, ?_⟩
    cases hfl : l sl st1 with
    | fail => rw [hfl] at q; exact q
    | exc x st2 => rw [hfl] at q; exact fun cls d ω' H' e s' => q cls d ω' H' (x12.trans e) s'
    | ok lo' st2 =>
      rw [hfl] at q
      dsimp only at q
      intro ω3 H3 x3 s3
      have x13 := x12.trans x3
      refine ⟨sl, st2, ω3, s3, ?_⟩
      cases hfh : h sl st2 with
      | fail => rw [hfh] at q; exact q
      | exc x st3 => rw [hfh] at q; exact fun cls d ω' H' e s' => q cls d ω' H' (x13.trans e) s'
      | ok hi' st3 =>
        rw [hfh] at q
        dsimp only at q
        intro ω4 H4 x4 s4
        have x14 := x13.trans x4
        refine ⟨sl, st3, ω4, s4, ?_⟩
        cases hfo : o sl st3 with
        | fail => rw [hfo] at q; exact q
        | exc x st4 => rw [hfo] at q; exact fun cls d ω' H' e s' => q cls d ω' H' (x14.trans e) s'
        | ok so st4 =>
          rw [hfo] at q
          dsimp only at q
          intro ω5 H5 x5 s5
          have hv5 := VR.up x5 (VR.up x4 (VR.up x3 hv2))
          cases hd : ev.dat st4 with
          | none => rw [hd] at q; exact q.elim
          | some d =>
            rw [hd] at q
            dsimp only at q
            have b := VR.bp s5 hv5 (by rw [EV.soft_dat]; exact hd)
            cases hg : cutD3 lo' hi' so d with
            | none => rw [hg] at q; exact q.elim
            | some o =>
              rw [hg] at q
              have gv := Give.of s5 (OutE.up q (x14.trans x5))
              have dm := s5.dom
              rw [hB] at b gv
              unfold cutD3 at hg
              split at hg
              · rename_i ds0
                split at hg
                · cases hg
                · rename_i h0
                  cases hg
                  obtain ⟨a, vs, rfl, sq, r⟩ := b.list_
                  refine .inl ⟨a, vs, rfl, sq, h0, fun p hp => ?_⟩
                  have rr : RpA X.K ω5.F H5 (pickL vs lo' hi' so) (pickL ds0 lo' hi' so) := by
                    unfold pickL
                    rw [r.length]
                    exact rp_pickN r _
                  exact gv.lst dm hp rr
              · split at hg
                · rename_i h0
                  obtain ⟨h1, h2, h3⟩ := h0
                  cases hg
                  cases b with
                  | rp t =>
                    cases t with
                    | tup fz r => exact .inr (.inl ⟨h1, h2, h3, _, _, rfl, fz.sq, fun p hp => gv.tup dm hp r.reverse⟩)
                · cases hg
              · rename_i z
                split at hg
                · rename_i h0
                  obtain ⟨h1, h2, h3, hl⟩ := h0
                  cases hg
                  have k := b.ok_
                  cases b.str_
                  refine .inr (.inr ⟨h1, h2, h3, z, rfl, Nat.le_trans hl lim_line, gv.here dm (.str _ (strOk_sub k fun c hc => ?_))⟩)
                  unfold revS at hc
                  simp only [List.toList_toArray, List.mem_reverse] at hc
                  exact hc
                · cases hg
              · cases hg
end
end Px

/-! PxO: how many unlike texts and numbers: len of a set comprehension -/
namespace Px
open PySem PySem.Spec PyProof.Rows L2

/-- a set under way, its members in the order in which they came -/
def hasK (l : List Key) (k : Key) : Bool := l.any fun j => decide (j = k)
def KsO (P : Program) (w : World) (a : Addr) (l : List Key) : HO := SetK P w a (hasK l) l.length
def insK (l : List Key) (k : Key) : List Key := if hasK l k = true then l else l ++ [k]
theorem ksO_ins (P : Program) (w : World) (a : Addr) (l : List Key) (k : Key) : SetK P w a (fun j => hasK l j || decide (j = k)) (if hasK l k = true then l.length else l.length + 1) = KsO P w a (insK l k) := by
  unfold KsO insK
  by_cases h : hasK l k = true
  · rw [if_pos h, if_pos h]
    congr 1
    funext j
    by_cases e : j = k
    · subst e; rw [h]; rfl
    · rw [decide_eq_false e, Bool.or_false]
  · rw [if_neg h, if_neg h, List.length_append]
    congr 1
    funext j
    unfold hasK
    rw [List.any_append]
    congr 1
    show decide (j = k) = (decide (k = j) || false)
    rw [Bool.or_false]
    exact decide_eq_decide.mpr eq_comm
section
variable {X : Cx}
/-- one more member -/
theorem ks_put {pins : List (Addr × Obj)} {σ : L2.St} {H : Hp} {s : Shared} {E : Value → Shared → Prop} {a : Addr} {l : List Key} {k : Key} {u : Value} {Q : Value → Shared → Prop} (I : Inv X pins σ H s) (e : H a = some (KsO X.prog X.w a l)) (room : l.length + 1 < scanBound)
    (r : RelV (kV k) u) (then_ : ∀ s', Inv X pins σ (upd H a (KsO X.prog X.w a (insK l k))) s' → Q .none s') : wpAny (model X.prog X.w) X.A (call (.builtin "set.add") [.ref a, u]) Q E s := by
  refine call_set_add (kV_is r) (key_scan r) (setK_get I e) room fun h' same held => ?_
  have there : ∃ v, h'.get? a = some v := by
    obtain ⟨v, _, _, _, g, _⟩ := held
    exact ⟨v, g⟩
  have e2 := setK_new (P := X.prog) (w := X.w) (H := upd H a (KsO X.prog X.w a (insK l k))) held
  rw [ksO_ins] at e2
  exact then_ _ (I.write (e := a) (t' := s.toks + 1) (by rw [e]; trivial) (.inl rfl) (fun b v ne g => (same.2 b ne).trans g) there e2)
/-- what a set comprehension asks (as tLc does, the set told by what came) -/
def tKs (P : Program) (w : World) (wi : TI) (g : TG) (tt : TT) (te : TE) (vs : List Nat) : TE := fun σ H Q => wi σ H fun J H1 => ∀ D, H1 D = none → ∃ Wy : Nat → Nat → Hp → Prop, (∃ m, Wy 0 m (upd H1 D (KsO P w D []))) ∧ ∀ i m H2, Wy i m H2 →
  (J.stop i H2 ∧ Q (.ref D) H2) ∨ (J.go i H2 ∧ ∃ Nx : Hp → Prop, (∀ H3, Nx H3 → ∃ m', m' < m ∧ Wy (i + 1) m' H3) ∧ ∀ x H3, J.yld i H2 x H3 → g x (wipe σ vs) H3 fun σ4 H4 => wipe σ4 vs = wipe σ vs ∧ tt σ4 H4 fun b H5 =>
    if b = true then te σ4 H5 fun y H6 => ∃ (k : Key) (l : List Key), y = kV k ∧ H6 D = some (KsO P w D l) ∧ l.length + 1 < scanBound ∧ Nx (upd H6 D (KsO P w D (insK l k))) else Nx H5)

/-- what stays through the block's turns -/
def Wheel (Y : Cx) (fp : List Addr) (tn : Nat → Heap → Prop) (σ : L2.St) (Wy : Nat → Nat → Hp → Prop) (m : Nat) (s : Shared) : Prop := ∃ i H, Inv Y [] σ H s ∧ tn i s.heap ∧ (∀ b ∈ fp, H b = none) ∧ Wy i m H
theorem wheel_on {Y : Cx} {fp : List Addr} {tn : Nat → Heap → Prop} {J : It} {tg : Expr} {it : Addr} {σ σ' : L2.St} {Wy : Nat → Nat → Hp → Prop} {vs : List Nat} {i m : Nat} {h : Heap} {H : Hp} {s : Shared} {Nx : Hp → Prop}
    (T : Turn Y.prog Y.w Y.K tg J fp it tn) (st : tn (i + 1) h) (nx : ∀ H, Nx H → ∃ m', m' < m ∧ Wy (i + 1) m' H) (same : wipe σ' vs = wipe σ vs) (I : Inv Y ([] ++ pinsAt fp h) σ' H s) (n : Nx H) : ∃ m', m' < m ∧ Wheel Y fp tn (wipe σ vs) Wy m' s := by
  obtain ⟨m', lt, w⟩ := nx H n
  have pinned : ∀ b ∈ fp, ∀ o, h.get? b = some o → s.heap.get? b = some o ∧ H b = none := fun b hb o g => by
    have z := I.pin (b, o) (List.mem_append_right _ (List.mem_append_right _ (mem_pinsAt hb g)))
    exact ⟨z.1, z.2.1⟩
  refine ⟨m', lt, i + 1, H, (I.unpinned (pins := [])).weak (by rw [← same, wipe_length]) (fun j v g => ?_), T.keep _ _ _ st fun b hb o g => (pinned b hb o g).1, fun b hb => ?_, w⟩
  · rw [← same] at g
    exact (wipe_some g).1
  · obtain ⟨o, g, _⟩ := T.obj _ _ st b hb
    exact (pinned b hb o g).2
theorem own_fp {Y : Cx} {fp : List Addr} {σ : L2.St} {H : Hp} {s : Shared} (hfp : Y.ex = fp) (hpn : Y.pn = []) (I : Inv Y [] σ H s) (n : ∀ b ∈ fp, H b = none) : ∀ b ∈ fp, FpOk Y [] H b := fun b hb => by
  have hb' : b ∈ Y.ex := hfp ▸ hb
  refine ⟨n b hb, (I.ok.exf b hb').1, I.ok.exfs b hb', .inl hb', (I.ok.exf b hb').2, fun p hp => ?_⟩
  rw [hpn] at hp
  cases hp
theorem pe_ks {elt tg iter : Expr} {ifs : List Expr} {scope : Scope} {own : List (Str × Nat)} {pos : Pos} {wi : TI} {g : TG} {tt : TT} {te : TE} (hc : X.calm = true) (hN : X.N.Nodup) (hi : PI X tg iter wi) (ok : BlkOk X.N X.env.scope scope own)
    (hg : ∀ (s : Shared) (H : Hp) (C : Addr) (cl : List (Str × Addr)) (fp : List Addr), PG (X.blk s H scope (compEnvC scope cl C X.env) fp) tg g) (ht : ∀ (s : Shared) (H : Hp) (C : Addr) (cl : List (Str × Addr)) (fp : List Addr), PTs (X.blk s H scope (compEnvC scope cl C X.env) fp) ifs tt)
    (he : ∀ (s : Shared) (H : Hp) (C : Addr) (cl : List (Str × Addr)) (fp : List Addr), PE (X.blk s H scope (compEnvC scope cl C X.env) fp) elt te) (hs : ∀ x, foldedSetIterable iter X.env x = pure x := by intro _; rfl) :
    PE X (.SetComp elt [⟨tg, iter, ifs, 0⟩] scope pos) (tKs X.prog X.w wi g tt te (own.map (·.2))) := by
  refine ⟨fun pins s σ H Q I h => ?_⟩
  rw [PpSet.eval_SetComp]
  have frees : ∀ y ∈ scope.names, y.2 = .free → ∃ c, X.env.cells.lookup y.1 = some c := fun y hy e => I.ok.has _ (ok.free y hy e)
  refine wpAny_comprehension_free (use := none) rfl hs (closure_ok frees) ok.kind (fun y hy e => (ok.uniq y hy).trans (congrArg some e)) (thn (hi.run pins s σ H _ I h) fun xv s1 hx => thn hx fun itv s2 ⟨it, fp, tn, J, H2, e, I2, T, st2, f2, q⟩ => ?_)
  subst e
  refine PpSet.newSet_ok (newEnv_comp ?_)
  -- the new set, the block's own names
  let D := s2.heap.objs.size
  let s3 : Shared := { s2 with heap := s2.heap.push { cls := .type "set", dict := none, data := .set #[] 0 (.fresh 0 0 (!X.w.params.followText "set-order")) } }
  let H3 : Hp := upd H2 D (KsO X.prog X.w D [])
  have more : ∀ b o, s2.heap.get? b = some o → s3.heap.get? b = some o := fun b o g => Heap.get?_push_of_some _ g
  have fresh : s3.heap.SetOf (mixKind X.prog X.w) D (hasK []) 0 :=
    ⟨_, #[], 0, _, Heap.get?_push_size _ rfl, ⟨rfl, rfl, rfl⟩, rfl, fun e he => by simp at he, fun k => by simp [hasK], by decide, by rfl, rfl⟩
  have I3 : Inv X pins σ H3 s3 := I2.laid (t' := s2.toks) more (Nat.le_refl _) (setK_new fresh)
  obtain ⟨Wy, ⟨m0, w0⟩, turn⟩ := q D (I2.hok.fresh (Nat.le_refl _))
  have low : ∀ b ∈ fp, b < D := fun b hb => by
    obtain ⟨o, g, _⟩ := T.obj _ _ st2 b hb
    exact Heap.lt_size g
  have f3 : ∀ b ∈ fp, FpOk X pins H3 b ∧ b < s3.heap.objs.size := fun b hb => by
    refine ⟨⟨(upd_ne (Nat.ne_of_lt (low b hb))).trans (f2 b hb).1, (f2 b hb).2⟩, ?_⟩
    show b < (s2.heap.push _).objs.size
    rw [Heap.size_push]
    exact Nat.lt_succ_of_lt (low b hb)
  have I4 := block_start I3 ok hN f3
  let cl := cellsFrom (s3.heap.objs.size + 1) scope.names (cloFrom X.env.cells scope.names [])
  let ce := compEnvC scope cl s3.heap.objs.size X.env
  let Y := X.blk s3 H3 scope ce fp
  have pg := hg s3 H3 s3.heap.objs.size cl fp
  have pt := ht s3 H3 s3.heap.objs.size cl fp
  have pe := he s3 H3 s3.heap.objs.size cl fp
  have st4 : tn 0 (pushCells (s3.heap.push { cls := .type "dict", data := .dict #[] }) scope.names) := T.keep _ _ _ st2 fun b _ o g => pushCells_keeps _ _ _ _ (Heap.get?_push_of_some _ (more b o g))
  have loop : codeAny (model X.prog X.w) X.A (.compLoop (.SetComp elt [⟨tg, iter, ifs, 0⟩] scope pos) 0 (.ref it) (.ref D) ce) (compPost (model X.prog X.w) X.A X.xe none (EP X pins σ Q) (.ref D) s3.heap.objs.size) { s3 with heap := pushCells (s3.heap.push { cls := .type "dict", data := .dict #[] }) scope.names } := by
    refine PpSet.compLoopS_any (Wheel Y fp tn (wipe σ (own.map (·.2))) Wy) ?_ m0 ⟨0, H3, I4, st4, fun b hb => (f3 b hb).1.1, w0⟩
    rintro m s5 ⟨i, H5, I5, st5, n5, w5⟩
    have fps : ∀ {σ : L2.St} {H : Hp} {s : Shared}, Inv Y [] σ H s → (∀ b ∈ fp, H b = none) → ∀ b ∈ fp, FpOk Y [] H b := fun I n => own_fp rfl rfl I n
    rcases turn i m H5 w5 with ⟨stop, qq⟩ | ⟨go, Nx, nx, step⟩
    · refine thnF (T.done Y rfl rfl rfl hc i [] s5 _ H5 (fun _ _ => False) I5 (fps I5 n5) st5 stop) fun r s6 ⟨er, I6⟩ => ?_
      subst er
      have I7 : Inv X pins σ H5 s6 := I3.call' (ch := fp) I6.os I6.base I6.hok I6.bare fun b hb => by
        obtain ⟨⟨_, a1, _, a3, a4, a5⟩, _⟩ := f3 b hb
        exact ⟨a3, a1, a4, a5⟩
      obtain ⟨mm, hn, _⟩ := I6.loc
      obtain ⟨p0, p1, p2, p3, p4, p5⟩ := I3.fpOk (H' := H5) (Nat.le_refl _) I6.free
      exact ⟨mm, hn, fun h'' sb => ⟨.ref D, H5, I7.turned (t' := s6.toks) (fun b o ne g => (sb.2 b ne).trans g) p0 p1 p3 p4 p5, rfl, qq⟩⟩
    · refine thnF (T.item Y rfl rfl rfl hc i [] s5 _ H5 (fun _ _ => False) I5 (fps I5 n5) st5 go) fun r s6 ⟨u, er, h6⟩ => ?_
      subst er
      refine thnF h6 fun _ s7 ⟨x, H7, I7, r7, y7, st7, n7⟩ => ?_
      refine thnF (pg.run _ s7 _ H7 x u _ (I7.pinned (fps I7 n7) (T.obj _ _ st7)) r7 (step x H7 y7)) fun _ s8 ⟨σ8, H8, I8, same, q8⟩ => ?_
      refine thnF (pt.run _ s8 σ8 H8 _ I8 q8) fun b s9 ⟨H9, I9, q9⟩ => ?_
      dsimp only at q9 ⊢
      by_cases hb : b = true
      · rw [if_pos hb] at q9 ⊢
        refine thnF (pe.run _ s9 σ8 H9 _ I9 q9) fun z s10 ⟨y, H10, I10, r10, k, l, ey, e10, room, n10⟩ => ?_
        subst ey
        exact ks_put (X := Y) I10 e10 room r10 fun s11 I11 => wheel_on (Y := Y) T st7 nx same I11 n10
      · rw [if_neg hb] at q9 ⊢
        exact wheel_on (Y := Y) T st7 nx same I9 q9
  exact PpSet.codeAny_compStart_set loop (T.self X.A 0 _ _ _ st4 loop)
/-- how many they are -/
theorem cr_lenK : CallR X (.builtin "len") (fun xs H Q => ∃ (a : Addr) (l : List Key), xs = [.ref a] ∧ H a = some (KsO X.prog X.w a l) ∧ Q (.int (l.length : Nat)) H) := by
  intro pins s σ H xs us Q I r h
  obtain ⟨a, l, rfl, e, q⟩ := h
  obtain ⟨u, rfl, ru⟩ := vals1 r
  cases ru
  obtain ⟨o, es, ep, t, ho, hx, hd, _, _, hb, hf, hn⟩ := setK_get I e
  have lt : es.size < 4096 := hb
  refine call_len_set ho hx hd hf (by omega) ⟨.int (l.length : Nat), H, I.tok _, ⟨_, by rw [hn]⟩, q⟩
end

/-! ### the reading -/
theorem wipe_twice (σ : L2.St) (vs : List Nat) : L2.wipe (L2.wipe σ vs) vs = L2.wipe σ vs := by
  have one : ∀ (ws : List Nat) (u : Nat), u ∈ ws → (L2.wipe σ ws).set u none = L2.wipe σ ws := by
    intro ws u hu
    induction ws with
    | nil => cases hu
    | cons w ws ih =>
      show ((L2.wipe σ ws).set w none).set u none = (L2.wipe σ ws).set w none
      by_cases he : u = w
      · subst he; rw [List.set_set]
      · rw [List.set_comm _ _ (fun z => he z.symm), ih ((List.mem_cons.mp hu).resolve_left he)]
  have go : ∀ us : List Nat, (∀ v ∈ us, v ∈ vs) → L2.wipe (L2.wipe σ vs) us = L2.wipe σ vs := by
    intro us
    induction us with
    | nil => intro _; rfl
    | cons u us ih =>
      intro hw
      show (L2.wipe (L2.wipe σ vs) us).set u none = L2.wipe σ vs
      rw [ih fun v hv => hw v (List.mem_cons_of_mem _ hv)]
      exact one vs u (hw u List.mem_cons_self)
  exact go vs fun _ h => h
def keyOf : PyData → Option Key
  | .int i => some (.inl i)
  | .str x => some (.inr x)
  | _ => none
def keysOf : List PyData → Option (List Key)
  | [] => some []
  | d :: ds => match keyOf d, keysOf ds with
    | some k, some ks => some (k :: ks)
    | _, _ => none
theorem keyOf_rp {K : PySem.W.Frag} {F : Addr → Prop} {H : Hp} {v : V} {d : PyData} {k : Key} (e : keyOf d = some k) (r : Rp K F H v d) : v = kV k := by
  cases d with
  | int i => cases e; cases r; rfl
  | str x => cases e; cases r; rfl
  | none => cases e
  | bool _ => cases e
  | list _ => cases e
  | tuple _ => cases e
  | dict _ => cases e
theorem insK_len (l : List Key) (k : Key) : (insK l k).length ≤ l.length + 1 := by
  unfold insK
  split
  · omega
  · rw [List.length_append]; exact Nat.le_refl _
def eLenSc (vs : List Nat) (fi : FI) (h : FG) (t : FT) (f : FE) : FE := fun sl st => match fi sl st with
  | .fail => .fail
  | .exc x st1 => .exc x st1
  | .ok ds st1 => match lcGo h t f (wipeS sl vs) ds st1 with
    | none => .fail
    | some (es, st2) => match keysOf es with
      | none => .fail
      | some ks => if ks.length ≤ 4000 then .ok (.val (.int (ks.foldl insK []).length)) st2 else .fail
section
variable {X : Cx} {ct : Gx} {W : WX}
theorem ks_read {B : Bs} (hB : B.K = X.K) {fi : FI} {h : FG} {t : FT} {f : FE} {vs ts : List Nat} (hts : ∀ i ∈ ts, i ∈ vs) {sl : Sls} {st : Sto} {σ : L2.St} {H : Hp} {Q : VK} {wi : TI}
    (hwi : ∀ σ H R, (∃ ω, SR B ω H σ sl st ∧ OutI B W X σ ω H sl (fi sl st) R) → wi σ H R) (q : ∃ ω, SR B ω H σ sl st ∧ OutE B W σ ω H sl (eLenSc vs fi h t f sl st) Q) :
    tKs X.prog X.w wi (fun v σ H Q => ∃ p sl sl' st d ω, h d sl = some sl' ∧ SR (B.guard p) ω H σ sl st ∧ Rp B.K ω.F H v d ∧ ∀ σ', Ts ts σ σ' → SR (B.guard p) ω H σ' sl' st → Q σ' H) (fun σ H Q => ∃ p sl st ω, SR (B.guard p) ω H σ sl st ∧ OutT (B.guard p) W0 σ ω H sl (t sl st) Q)
      (fun σ H Q => ∃ p sl st ω, SR (B.guard p) ω H σ sl st ∧ OutE (B.guard p) W0 σ ω H sl (f sl st) Q) vs σ H (fun v H' => ∃ (a : Addr) (l : List Key), [v] = [V.ref a] ∧ H' a = some (KsO X.prog X.w a l) ∧ Q (.int (l.length : Nat)) H') := by
  obtain ⟨ω, s, q⟩ := q
  refine hwi σ H _ ⟨ω, s, ?_⟩
  unfold eLenSc at q
  cases hf : fi sl st with
  | fail => rw [hf] at q; exact q
  | exc x st1 => rw [hf] at q; exact q
  | ok ds st1 =>
    rw [hf] at q
    dsimp only at q
    intro J ω1 H1 x1 s1 wk D hD
    cases hl : lcGo h t f (wipeS sl vs) ds st1 with
    | none => rw [hl] at q; exact q.elim
    | some p =>
      obtain ⟨es, st2⟩ := p
      rw [hl] at q
      dsimp only at q
      cases hk : keysOf es with
      | none => rw [hk] at q; exact q.elim
      | some ks =>
      rw [hk] at q
      dsimp only at q
      by_cases hz : ks.length ≤ 4000
      · rw [if_pos hz] at q
        obtain ⟨d1, d2, d3⟩ := s1.fresh hD
        let Wv : Nat → Nat → Hp → Prop := fun i m H' => i + m = ds.length ∧ ∃ ω' st' l es' kr, SR (B.guard D) ω' H' (L2.wipe σ vs) (wipeS sl vs) st' ∧ Ext B ω1 H1 ω' H' ∧ H' D = some (KsO X.prog X.w D l) ∧
          lcGo h t f (wipeS sl vs) (ds.drop i) st' = some (es', st2) ∧ keysOf es' = some kr ∧ kr.foldl insK l = ks.foldl insK [] ∧ l.length + kr.length ≤ 4000
        have start : Wv 0 ds.length (upd H1 D (KsO X.prog X.w D [])) := by
          obtain ⟨s2, e2⟩ := s1.under (o := KsO X.prog X.w D []) d3 d1 d2.1 d2.2
          exact ⟨by omega, ω1, st1, [], es, ks, (s2.wipe vs).guard d3 d1 (by rw [upd_same]; intro z; cases z), e2, upd_same, by rw [List.drop_zero]; exact hl, hk, rfl, by simpa using hz⟩
        refine ⟨Wv, ⟨ds.length, start⟩, ?_⟩
        rintro i m H' ⟨em, ω', st', l, es', kr, s', e', hH, hgo, hkr, hfold, hlen⟩
        obtain ⟨s0, f0, a0, n0⟩ := s'.unguard
        by_cases hi : i < ds.length
        · refine .inr ⟨wk.go _ _ i e'.fr hi, fun H2 => ∃ m', m' < m ∧ Wv (i + 1) m' H2, fun H2 hN => hN, fun x H2 hy => ?_⟩
          rw [List.drop_eq_getElem_cons hi] at hgo
          unfold lcGo at hgo
          obtain ⟨F2, px, rx⟩ := wk.yld _ _ i x H2 _ e'.fr s'.dom (List.getElem?_eq_getElem hi) hy
          cases hh : h ds[i] (wipeS sl vs) with
          | none => rw [hh] at hgo; cases hgo
          | some sl2 =>
            rw [hh] at hgo
            dsimp only at hgo
            have s2 := s'.pure px
            have e2 : Ext (B.guard D) ω' H' ⟨F2, ω'.ad⟩ H2 := s'.px px
            refine ⟨D, wipeS sl vs, sl2, st', ds[i], ⟨F2, ω'.ad⟩, hh, s2, by rw [hB]; exact rx, fun σ2 tsr s3 => ⟨?_, ?_⟩⟩
            · rw [tsr vs hts]
              exact wipe_twice σ vs
            · refine ⟨D, sl2, st', ⟨F2, ω'.ad⟩, s3, ?_⟩
              cases ht : t sl2 st' with
              | fail => rw [ht] at hgo; cases hgo
              | exc y st3 => rw [ht] at hgo; cases hgo
              | ok k st3 =>
                rw [ht] at hgo
                intro ω3 H3 e3 s4
                have e23 := e2.trans e3
                obtain ⟨e23', hD3⟩ := e23.unguard
                cases k with
                | false =>
                  rw [if_neg Bool.false_ne_true]
                  exact ⟨m - 1, by omega, by omega, ω3, st3, l, es', kr, SR.slots s' e23 s4, e'.trans e23', hD3.trans hH, hgo, hkr, hfold, hlen⟩
                | true =>
                  rw [if_pos rfl]
                  refine ⟨D, sl2, st3, ω3, s4, ?_⟩
                  dsimp only at hgo
                  cases hv : f sl2 st3 with
                  | fail => rw [hv] at hgo; cases hgo
                  | exc y st4 => rw [hv] at hgo; cases hgo
                  | ok ev st4 =>
                    rw [hv] at hgo
                    dsimp only at hgo
                    cases hx : ev.fix st4 with
                    | none => rw [hx] at hgo; cases hgo
                    | some pe =>
                      obtain ⟨e1, st5⟩ := pe
                      rw [hx] at hgo
                      dsimp only at hgo
                      cases hg2 : lcGo h t f (wipeS sl vs) (ds.drop (i + 1)) st5 with
                      | none => rw [hg2] at hgo; cases hgo
                      | some pr =>
                        obtain ⟨es2, st6⟩ := pr
                        rw [hg2] at hgo
                        cases hgo
                        unfold keysOf at hkr
                        cases hk1 : keyOf e1 with
                        | none => simp [hk1] at hkr
                        | some k1 =>
                        cases hk2 : keysOf es2 with
                        | none => simp [hk1, hk2] at hkr
                        | some k2 =>
                        simp only [hk1, hk2, Option.some.injEq] at hkr
                        subst hkr
                        rw [List.foldl_cons] at hfold
                        rw [List.length_cons] at hlen
                        intro y ω4 H4 e4 s5 hy4
                        obtain ⟨ω5, e5, s6, r6⟩ := VR.fix s5 hy4 hx
                        have e25 := (e23.trans e4).trans e5
                        obtain ⟨e25', hD5⟩ := e25.unguard
                        obtain ⟨s7, f7, a7, n7⟩ := s6.unguard
                        have wp : SR B ω5 H4 (L2.wipe σ vs) (wipeS sl vs) st5 := SR.slots s0 e25' s7
                        have il := insK_len l k1
                        refine ⟨k1, l, keyOf_rp hk1 r6, hD5.trans hH, by show l.length + 1 < 4096; omega, m - 1, by omega, by omega, ω5, st5, insK l k1, es2, k2, ?_, ?_, upd_same, hg2, hk2, hfold, by omega⟩
                        · exact (wp.under f7 a7 d2.1 d2.2).1.guard f7 a7 (by rw [upd_same]; intro z; cases z)
                        · exact (e'.trans e25').trans (wp.under f7 a7 d2.1 d2.2).2
        · have hi' : i = ds.length := by omega
          subst hi'
          rw [List.drop_length] at hgo
          unfold lcGo at hgo
          cases hgo
          cases hkr
          refine .inl ⟨wk.stop _ _ e'.fr, D, l, rfl, hH, ?_⟩
          rw [← hfold] at q
          exact q _ ω' H' (x1.trans e') (SR.slots s (x1.trans e') s0) (.int _)
      · rw [if_neg hz] at q; exact q.elim
theorem se_lenSc {elt tg iter : Expr} {ifs : List Expr} {scope : Scope} (own : List (Str × Nat)) {x : Str} {p pos pos2 : Pos} {fi : FI} {h : FG} {t : FT} {f : FE} {ts : List Nat} (hx : x = "len") (hgl : Gl X x) (hm : X.mg x = none) (hc : X.calm = true) (hN : X.N.Nodup) (hi : SI X ct W tg iter fi) (ok : BlkOk X.N X.env.scope scope own) (hts : ∀ i ∈ ts, i ∈ own.map (·.2))
    (hg : ∀ (s : Shared) (H : Hp) (C : Addr) (cl : List (Str × Addr)) (fp : List Addr), SG (X.blk s H scope (compEnvC scope cl C X.env) fp) ts tg h) (ht : ∀ (s : Shared) (H : Hp) (C : Addr) (cl : List (Str × Addr)) (fp : List Addr), SPT (X.blk s H scope (compEnvC scope cl C X.env) fp) ct W0 ifs t)
    (he : ∀ (s : Shared) (H : Hp) (C : Addr) (cl : List (Str × Addr)) (fp : List Addr), SE (X.blk s H scope (compEnvC scope cl C X.env) fp) ct W0 elt f) (hs : ∀ x, foldedSetIterable iter X.env x = pure x := by intro _; rfl)
    (hst : starEach [.SetComp elt [⟨tg, iter, ifs, 0⟩] scope pos] X.env = [(false, eval (.SetComp elt [⟨tg, iter, ifs, 0⟩] scope pos) X.env)] := by rfl) :
    SE X ct W (.Call (.Name x p) [.SetComp elt [⟨tg, iter, ifs, 0⟩] scope pos] [] pos2) (eLenSc (own.map (·.2)) fi h t f) := by
  subst hx
  intro B hB hb sl st
  refine pe_imp (pe_callB cr_lenK hgl hm bo_len (pa_cons (pe_ks hc hN (hi B hB hb sl st) ok (fun s H C cl fp => (hg s H C cl fp).allG hB) (fun s H C cl fp => (ht s H C cl fp).allG hB hb) (fun s H C cl fp => (he s H C cl fp).allG hB hb) hs) pa_nil hst) (by decide) (by decide) hst rfl) fun σ H Q q => ?_
  exact ks_read hB hts (fun _ _ _ z => z) q
end
end Px
/-! PxP: which exception is caught, isinstance of it -/
namespace Px
open PySem PySem.Spec PyProof.Rows L2

/-- by the classes' names -/
def catL (l : List (String × Bool)) : Exn → Option Bool := fun y => l.lookup y.nm
inductive CatOk (ct : Gx) (P : Addr → Bool → Prop) : List (String × Bool) → Prop
  | nil : CatOk ct P []
  | cons {x : String} {b : Bool} {l : List (String × Bool)} {A : Addr} : ct.tab x = some A → P A b → CatOk ct P l → CatOk ct P ((x, b) :: l)
theorem CatOk.get {ct : Gx} {P : Addr → Bool → Prop} : ∀ {l : List (String × Bool)}, CatOk ct P l → ∀ (y : Exn) (C : Addr) (b : Bool), ct.tab y.nm = some C → catL l y = some b → P C b
  | _, .nil, _, _, _, _, e => by cases e
  | _, .cons (x := x) (b := b0) (l := l) h p r, y, C, b, e1, e2 => by
    unfold catL at e2
    rw [List.lookup_cons] at e2
    by_cases q : y.nm = x
    · rw [q] at e1 e2
      rw [beq_self_eq_true] at e2
      cases e2
      rw [h] at e1
      cases e1
      exact p
    · rw [beq_false_of_ne q] at e2
      exact CatOk.get r y C b e1 e2
section
variable {X : Cx} {ct : Gx} {W : WX}
theorem se_isN {a : Addr} {oe : Obj} {pn : List (Addr × Obj)} {y : Exn} {e : Expr} (i : Nat) (isx : Exn → Option Bool) (h : isx y = none) : SE (X.suite a ((a, oe) :: pn)) (ct.at a y) W0 e (eIsE i isx) := by
  intro B hB hct sl st
  refine ⟨fun pins s σ H Q I ⟨ω, sr, q⟩ => ?_⟩
  unfold eIsE at q
  cases hsl : sl[i]? with
  | none => rw [hsl] at q; exact q.elim
  | some t =>
    rw [hsl] at q
    have r := sr.slot i t hsl
    cases t with
    | non => exact q.elim
    | val d => exact q.elim
    | ref n => exact q.elim
    | hot y' =>
      obtain ⟨r1, r2⟩ := r
      rw [hct] at r2
      have r2' : y' = y := r2
      subst r2'
      dsimp only at q
      rw [h] at q
      exact q.elim
/-- isinstance(e, C) -/
theorem se_isX {a D : Addr} {oe : Obj} {pn : List (Addr × Obj)} {y : Exn} {C : Addr} {x z cl : Str} {p p1 p2 pos : Pos} (i : Nat) (l : List (String × Bool)) (ok : CatOk ct (fun D b => ExcC X.K D ∧ PySem.W.kitOne X.K (.ref D) (.ref C) = some b) l) (hy : ct.tab y.nm = some D) (hz : Zc (.ref D) none oe) (hf : ∃ vs, oe.data = .fields vs) (hx : x = "isinstance") (hg : Gl X x) (hm : X.mg x = none)
    (hi : X.N[i]? = some z) (hv : Vis X.env.scope z) (gc : Gl X cl) (mc : X.mg cl = some (.ref C)) (dz : (z == ("__debug__" : Str)) = false := by decide) (cz : (z == ("__classdict__" : Str)) = false := by decide)
    (dc : (cl == ("__debug__" : Str)) = false := by decide) (hs : starEach [.Name z p1, .Name cl p2] X.env = (false, eval (.Name z p1) X.env) :: starEach [.Name cl p2] X.env := by rfl) (hs2 : starEach [.Name cl p2] X.env = (false, eval (.Name cl p2) X.env) :: starEach [] X.env := by rfl)
    (hpl : (backTo pos (starEach [.Name cl p2] X.env)).any (·.1) = false := by rfl) : SE (X.suite a ((a, oe) :: pn)) (ct.at a y) W0 (.Call (.Name x p) [.Name z p1, .Name cl p2] [] pos) (eIsE i (catL l)) := by
  cases hb : catL l y with
  | none => exact se_isN i (catL l) hb
  | some b =>
    obtain ⟨EC, k⟩ := ok.get y D b hy hb
    exact se_isE i (catL l) EC hz hf hx hg hm hi hv gc mc (fun b' e => by rw [hb] at e; cases e; exact k) dz cz dc hs hs2 hpl
/-- isinstance(e, (A, B)) -/
theorem call_isE2 {a D : Addr} {oe : Obj} {pn : List (Addr × Obj)} {A1 A2 : Addr} {b : Bool} (C : ExcC X.K D) (hz : Zc (.ref D) none oe) (hf : ∃ vs, oe.data = .fields vs) (k : PySem.W.kitAny X.K (.ref D) [.ref A1, .ref A2] = some b) :
    CallR (X.suite a ((a, oe) :: pn)) (.builtin "isinstance") (fun xs H Q => ∃ tp, xs = [.ref a, .ref tp] ∧ H tp = some (.tup [.ref A1, .ref A2]) ∧ Q (.bl b) H) := by
  intro pins s σ H xs us Q I r h
  obtain ⟨tp, rfl, ht, q⟩ := h
  obtain ⟨u1, u2, rfl, r1, r2⟩ := vals2 r
  cases (show u1 = Value.ref a from r1)
  cases (show u2 = Value.ref tp from r2)
  obtain ⟨hget, _⟩ := I.pin (a, oe) (List.mem_append.mpr (.inl List.mem_cons_self))
  obtain ⟨_, its, rv, o, h1, h2, n, h3⟩ := (show ObjOk X.prog X.w H s.heap tp (.tup [.ref A1, .ref A2]) from I.hok tp _ ht)
  have e3 : its = [.ref A1, .ref A2] := by
    obtain ⟨w1, w2, e, q1, q2⟩ := vals2 rv
    rw [e, show w1 = Value.ref A1 from q1, show w2 = Value.ref A2 from q2]
  subst e3
  obtain ⟨oc, od, dt, sl⟩ := o
  simp only at h2 h3
  subst h2 h3
  have J : PySem.W.InstAt s.heap a oe D none := by
    obtain ⟨vs, hv⟩ := hf
    obtain ⟨oc, od, oda, osl⟩ := oe
    obtain ⟨z1, z2⟩ := hz
    dsimp only at z1 z2 hv
    subst z1 z2 hv
    exact ⟨hget, rfl, rfl, trivial⟩
  exact PySem.W.kia_tup (PySem.W.handS_kitx_exc C.hg C.hk C.hs C.hd C.ha C.hn C.ht C.hm) I.kIn J h1 k (fun z => nomatch z) fun tk => ⟨.bl b, H, I.kept (t' := tk) fun _ _ z => z, rfl, q⟩
theorem se_isX2 {a D : Addr} {oe : Obj} {pn : List (Addr × Obj)} {y : Exn} {A1 A2 : Addr} {x z c1 c2 : Str} {k : Nat} {p p1 p2 p3 p4 pos : Pos} (i : Nat) (l : List (String × Bool)) (ok : CatOk ct (fun D b => ExcC X.K D ∧ PySem.W.kitAny X.K (.ref D) [.ref A1, .ref A2] = some b) l) (hy : ct.tab y.nm = some D) (hz : Zc (.ref D) none oe) (hf : ∃ vs, oe.data = .fields vs) (hx : x = "isinstance") (hg : Gl X x) (hm : X.mg x = none)
    (hi : X.N[i]? = some z) (hv : Vis X.env.scope z) (g1 : Gl X c1) (m1 : X.mg c1 = some (.ref A1)) (g2 : Gl X c2) (m2 : X.mg c2 = some (.ref A2)) (dz : (z == ("__debug__" : Str)) = false := by decide) (cz : (z == ("__classdict__" : Str)) = false := by decide)
    (d1 : (c1 == ("__debug__" : Str)) = false := by decide) (d2 : (c2 == ("__debug__" : Str)) = false := by decide) (hs : starEach [.Name z p1, .Tuple [.Name c1 p2, .Name c2 p3] k p4] X.env = (false, eval (.Name z p1) X.env) :: starEach [.Tuple [.Name c1 p2, .Name c2 p3] k p4] X.env := by rfl)
    (hs2 : starEach [.Tuple [.Name c1 p2, .Name c2 p3] k p4] X.env = (false, eval (.Tuple [.Name c1 p2, .Name c2 p3] k p4) X.env) :: starEach [] X.env := by rfl) (hs3 : starEach [.Name c1 p2, .Name c2 p3] X.env = (false, eval (.Name c1 p2) X.env) :: starEach [.Name c2 p3] X.env := by rfl) (hs4 : starEach [.Name c2 p3] X.env = (false, eval (.Name c2 p3) X.env) :: starEach [] X.env := by rfl)
    (hpl : (backTo pos (starEach [.Tuple [.Name c1 p2, .Name c2 p3] k p4] X.env)).any (·.1) = false := by rfl) : SE (X.suite a ((a, oe) :: pn)) (ct.at a y) W0 (.Call (.Name x p) [.Name z p1, .Tuple [.Name c1 p2, .Name c2 p3] k p4] [] pos) (eIsE i (catL l)) := by
  cases hb : catL l y with
  | none => exact se_isN i (catL l) hb
  | some b =>
    obtain ⟨EC, kk⟩ := ok.get y D b hy hb
    subst hx
    intro B hB hct sl st
    refine pe_imp (pe_callB (X := X.suite a ((a, oe) :: pn)) (call_isE2 EC hz hf kk) hg hm bo_isinstance (pa_cons (pe_var hi hv dz cz) (pa_cons (pe_tup (pa_cons (pe_glob g1 m1 (show RelV (.ref A1) (.ref A1) from rfl) d1) (pa_cons (pe_glob g2 m2 (show RelV (.ref A2) (.ref A2) from rfl) d2) pa_nil hs4) hs3)) pa_nil hs2) hs) (by decide) (by decide) hs hpl) fun σ H Q ⟨ω, s, q⟩ => ?_
    unfold eIsE at q
    cases hsl : sl[i]? with
    | none => rw [hsl] at q; exact q.elim
    | some t =>
      rw [hsl] at q
      have r := s.slot i t hsl
      cases t with
      | non => exact q.elim
      | val d => exact q.elim
      | ref n => exact q.elim
      | hot y' =>
        obtain ⟨r1, r2⟩ := r
        rw [hct] at r1 r2
        have r2' : y' = y := r2
        subst r2'
        dsimp only at q
        rw [hb] at q
        refine ⟨.ref a, r1, by show 2 ≤ sizeLine; rw [sizeLine_eq]; omega, fun tp htp => ⟨tp, rfl, upd_same, ?_⟩⟩
        have px : PEx ω.F H ω.F (upd H tp (.tup [.ref A1, .ref A2])) := PEx.neu s.dom htp
        exact q (.bl b) ⟨ω.F, ω.ad⟩ _ (s.px px) (s.pure px) (.bl b)
/-- {} -/
def eDic0 : FE := fun _ st => .ok (.new (.dic [])) st
theorem se_dic0 {pos : Pos} : SE X ct W (.Dict [] [] pos) eDic0 := by
  intro B hB hc sl st
  refine pe_imp pe_dnewK fun σ H Q ⟨ω, s, q⟩ p hp => ?_
  obtain ⟨h1, h2, h3⟩ := s.fresh hp
  have px : PEx ω.F H ω.F (upd H p (.dK [])) := PEx.neu s.dom hp
  exact q (.ref p) ⟨ω.F, ω.ad⟩ _ (s.px px) (s.pure px) ⟨p, rfl, h1, h2, h3, [], upd_same, .nil⟩
end
end Px
/-! PxQ: a tuple beside the empty one, whatever stands in it -/
namespace Px
open PySem PySem.Spec PyProof.Rows L2
section
variable {X : Cx}
def rEmp (K : PySem.W.Frag) (f : List V → Bool) : R2 := fun x y H Q => ∃ a b xs, x = .ref a ∧ y = .ref b ∧ SqT K H a xs ∧ SqT K H b [] ∧ Q (.bl (f xs)) H
theorem emp_tup {pins : List (Addr × Obj)} {σ : L2.St} {H : Hp} {s : Shared} {a : Addr} {xs : List V} (I : Inv X pins σ H s) (h : SqT X.K H a xs) : ∃ its : Array Value, s.heap.IsTuple a its ∧ its.size = xs.length := by
  obtain ⟨its, r, ⟨o, h1, h2, n, h3⟩, _⟩ := I.tuple h
  exact ⟨its.toArray, ⟨o, h1, h2, n, h3⟩, by rw [List.size_toArray, r.length]⟩
theorem op_eqEmp (hu : X.A.units < cLine) : OpR X (compareOp .Eq) (rEmp X.K List.isEmpty) := by
  intro pins s σ H x y v u Q I rx ry h
  obtain ⟨a, b, xs, rfl, rfl, ha, hb, q⟩ := h
  cases rx
  cases ry
  obtain ⟨i1, t1, l1⟩ := emp_tup I ha
  obtain ⟨i2, t2, l2⟩ := emp_tup I hb
  have l2' : i2.size = 0 := l2
  refine SeqAt.RcAt.tuples (e := fun _ => true) t1 t2 hu (fun j _ h2 => absurd h2 (by rw [l2']; exact Nat.not_lt_zero _)) X.prog X.w _ _ ⟨.bl _, H, I, rfl, ?_⟩
  have e : ((List.range (min i1.size i2.size)).all (fun _ => true) && i1.size == i2.size) = xs.isEmpty := by
    rw [l2', l1]
    cases xs <;> simp
  rw [e]
  exact q
theorem op_neEmp (hu : X.A.units < cLine) : OpR X (compareOp .NotEq) (rEmp X.K fun xs => !xs.isEmpty) := by
  intro pins s σ H x y v u Q I rx ry h
  obtain ⟨a, b, xs, rfl, rfl, ha, hb, q⟩ := h
  cases rx
  cases ry
  obtain ⟨i1, t1, l1⟩ := emp_tup I ha
  obtain ⟨i2, t2, l2⟩ := emp_tup I hb
  have l2' : i2.size = 0 := l2
  refine SeqAt.RcNeAt.tuples (e := fun _ => true) t1 t2 hu (fun j _ h2 => absurd h2 (by rw [l2']; exact Nat.not_lt_zero _)) X.prog X.w _ _ ⟨.bl _, H, I, rfl, ?_⟩
  have e : (!((List.range (min i1.size i2.size)).all (fun _ => true) && i1.size == i2.size)) = !xs.isEmpty := by
    rw [l2', l1]
    cases xs <;> simp
  rw [e]
  exact q
def eqE : PyData → PyData → Option Bool
  | .tuple xs, .tuple [] => some xs.isEmpty
  | a, b => eqD a b
def neE : PyData → PyData → Option Bool
  | .tuple xs, .tuple [] => some (!xs.isEmpty)
  | a, b => neD a b
theorem Bp.emp {K : PySem.W.Frag} {F : Addr → Prop} {H : Hp} {x y : V} {xs : List PyData} (b1 : Bp K F H x (.tuple xs)) (b2 : Bp K F H y (.tuple [])) : ∃ a b vs, x = .ref a ∧ y = .ref b ∧ SqT K H a vs ∧ SqT K H b [] ∧ vs.isEmpty = xs.isEmpty := by
  obtain ⟨a, vs, rfl, s1, r1⟩ := b1.tup_
  obtain ⟨b, ws, rfl, s2, r2⟩ := b2.tup_
  cases r2
  refine ⟨a, b, vs, rfl, rfl, s1, s2, ?_⟩
  cases r1 <;> rfl
theorem rel_eqE (hu : X.A.units + 64 < cLine) : RelD X .Eq eqE := by
  obtain ⟨r, o, k⟩ := rel_eq hu
  refine ⟨_, op_or (op_eqEmp (by omega)) o, fun F H x y d1 d2 b Q b1 b2 e q => ?_⟩
  unfold eqE at e
  split at e
  · cases e
    obtain ⟨a, c, vs, e1, e2, s1, s2, e3⟩ := b1.emp b2
    exact .inl ⟨a, c, vs, e1, e2, s1, s2, by rw [e3]; exact q⟩
  · exact .inr (k F H x y _ _ b Q b1 b2 e q)
theorem rel_neE (hu : X.A.units + 64 < cLine) : RelD X .NotEq neE := by
  obtain ⟨r, o, k⟩ := rel_ne hu
  refine ⟨_, op_or (op_neEmp (by omega)) o, fun F H x y d1 d2 b Q b1 b2 e q => ?_⟩
  unfold neE at e
  split at e
  · cases e
    obtain ⟨a, c, vs, e1, e2, s1, s2, e3⟩ := b1.emp b2
    exact .inl ⟨a, c, vs, e1, e2, s1, s2, by show Q (.bl (!vs.isEmpty)) H; rw [e3]; exact q⟩
  · exact .inr (k F H x y _ _ b Q b1 b2 e q)
end
end Px
namespace Px
open PySem PySem.Spec PyProof.Rows L2
/-- of what is never called nothing is asked -/
theorem fnG_fail {P : Program} {w : World} {K : PySem.W.Frag} {mg : Str → Option Value} {base : Heap} {ct : Gx} {k : Nat} {f : Addr} {fd : FuncData} {ps : List Str} : FnG P w K mg base (L2.CX P w) k f fd ps (spOf K ct (List.length ps) fun _ => .fail) :=
  ⟨fun vs H Q E ⟨_, _, _, h, _⟩ => h, fun A outer s H args us vs Q E _ _ _ _ _ ⟨_, _, _, _, _, _, _, q⟩ => q.elim⟩
end Px
/-! PxR: the end of a law's row, from what its def is as a function -/
namespace Px
open PySem PySem.Spec PyProof.Rows L2

theorem rpa_ints {K : PySem.W.Frag} {F : Addr → Prop} {H : Hp} : ∀ ns : List Int, RpA K F H (ns.map V.int) (ns.map PyData.int)
  | [] => .nil
  | n :: ns => .cons (.int n) (rpa_ints ns)
/-- the law's promise at the script -/
theorem law_says {K : PySem.W.Frag} {ct : Gx} {D : FD} {H : Hp} {a : Addr} {ns : List Int} (F : Addr → Prop) (dm : ∀ b, F b → H b ≠ none) (f : FzL K F H a (ns.map V.int)) (hD : D [.val (.list (ns.map .int))] = .rt (.bool true) []) :
    spOf K ct (List.length (α := Str) ["script"]) D [.ref a] H (fun v _ => v = .bl true) (fun _ _ _ => False) := by
  refine ⟨F, [.val (.list (ns.map .int))], [], rfl, .val (.lst f (rpa_ints ns)) .nil, dm, List.nodup_nil, ?_⟩
  rw [hD]
  intro v F' H' _ r
  cases r
  rfl
section
variable {P : Program} {w : World} {K : PySem.W.Frag} {mg mb : Str → Option Value} {k : Nat} {fa a : Addr} {fd : FuncData} {D : FD} {ct : Gx} {s : Shared} {vs : List Value} {ns : List Int}
/-- where but one thing is tracked -/
structure Lone (P : Program) (w : World) (K : PySem.W.Frag) (s : Shared) (a : Addr) (H : Hp) (ns : List Int) : Prop where
  ok : HOk P w H s.heap
  one : ∀ b, H b ≠ none → b = a ∧ (∃ o xs, H b = some (.frz o (.lst xs))) ∧ K.lookup b = none
  fz : FzL K (fun b => H b ≠ none) H a (ns.map V.int)
theorem lone_of (KX : K.In s.heap) (ha : s.heap.get? a = some { cls := .type "list", data := .seq vs.toArray }) (hi : IntsAre vs ns) (hl : ns.length ≤ sizeLine) : ∃ H, Lone P w K s a H ns := by
  have rv : Vals (ns.map V.int) vs := vals_ints hi
  have len : vs.length = ns.length := by rw [← rv.length, List.length_map]
  by_cases hk : K.lookup a = none
  · let H : Hp := fun b => if b = a then some (.frz { cls := .type "list", data := .seq vs.toArray } (.lst (ns.map V.int))) else none
    have at_a : H a = some (.frz { cls := .type "list", data := .seq vs.toArray } (.lst (ns.map V.int))) := if_pos rfl
    have only : ∀ b u, H b = some u → b = a ∧ u = .frz { cls := .type "list", data := .seq vs.toArray } (.lst (ns.map V.int)) := fun b u e => by
      by_cases hb : b = a
      · subst hb; rw [at_a] at e; cases e; exact ⟨rfl, rfl⟩
      · have z : H b = none := if_neg hb
        rw [z] at e; cases e
    refine ⟨H, fun b u e => ?_, fun b hb => ?_, .inl ⟨(by show H a ≠ none; rw [at_a]; exact (fun z => nomatch z)), .inr ⟨_, at_a⟩⟩⟩
    · obtain ⟨rfl, rfl⟩ := only b u e
      exact ⟨ha, by rw [List.length_map]; exact hl, vs, _, rv, ha⟩
    · cases e : H b with
      | none => exact absurd e hb
      | some u =>
        obtain ⟨rfl, rfl⟩ := only b u e
        exact ⟨rfl, ⟨_, _, rfl⟩, hk⟩
  · obtain ⟨o, ho⟩ := Option.ne_none_iff_exists'.mp hk
    have e := KX a o ho
    rw [ha] at e
    cases e
    exact ⟨fun _ => none, fun b u e => (nomatch (show (none : Option HO) = some u from e)), fun b hb => absurd rfl hb, .inr (.inr ⟨_, vs.toArray, _, ho, rfl, rfl, rfl, by rw [List.size_toArray, len]; exact hl, by simpa using rv⟩)⟩
theorem law_end (KX : K.In s.heap) (hns : s.heap.Ns mainGlobals mg) (hb : s.heap.Ns builtinsNs mb) (hbb : ∀ x : Str, x ≠ "__name__" → mb x = bootBuiltins x) (hlim : s.heap.NoLimit) (hg : s.gens = #[])
    (ha : s.heap.get? a = some { cls := .type "list", data := .seq vs.toArray }) (hi : IntsAre vs ns) (hl : ns.length ≤ sizeLine) (hr : Room k callerA)
    (F : ∀ base : Heap, K.In base → base.Ns mainGlobals mg → FnG P w K mg base (L2.CX P w) k fa fd ["script"] (spOf K ct (List.length (α := Str) ["script"]) D)) (hbind : ∀ (s : Shared) (u : Value), BindsTo s fd ⟨[u], []⟩ [("script", u)])
    (hD : D [.val (.list (ns.map .int))] = .rt (.bool true) []) :
    codeAny (model P w) callerA (.call (.ref fa) ⟨[.ref a], []⟩) (fun r s' => r = .ok (.ret (.bool true)) ∧ OldK s.heap s'.heap ∧ s'.os = s.os ∧ AllBare s'.gens) s := by
  obtain ⟨H, L⟩ := lone_of (P := P) (w := w) KX ha hi hl
  have shown : ∀ b o, s.heap.get? b = some o → H b = none → (hidT s.heap H).get? b = some o := fun b o e n => hidT_get e n
  have names : ∀ b m, s.heap.Ns b m → (hidT s.heap H).Ns b m := fun b m ⟨o, es, ep, e, d, r⟩ => by
    refine ⟨o, es, ep, shown b o e ?_, d, r⟩
    refine Classical.byContradiction fun n => ?_
    obtain ⟨rfl, _⟩ := L.one b n
    rw [ha] at e
    cases e
    exact nomatch (show Data.seq vs.toArray _ = Data.dict es ep from d)
  have inK : K.In (hidT s.heap H) := fun b o e => shown b o (KX b o e) (Classical.byContradiction fun n => by
    have z := (L.one b n).2.2
    rw [e] at z
    cases z)
  obtain ⟨mc, l1, l2⟩ := hlim
  have env : Env0 P w K mg (hidT s.heap H) callerA [] s H :=
    ⟨rfl, ⟨inK, names _ _ hns, ⟨mb, names _ _ hb, hbb⟩, ⟨mc, names _ _ l1, l2⟩⟩, fun b o e => of_hidT e, Nat.le_of_eq (hidT_size _ _), trivial, fun b hb => (nomatch (show b ∈ ([] : List Addr) from hb)), L.ok, .of_eq hg⟩
  refine codeAny_mono ((F _ inK (names _ _ hns)).run callerA [] s H ⟨[.ref a], []⟩ [.ref a] [.ref a] _ _ hr rfl env (hbind s (.ref a)) (.cons rfl .nil) (law_says _ (fun b h => h) L.fz hD)) fun r s' h => ?_
  match r, h with
  | .ok (.ret u), ⟨v, H', os, bare, un, ok', rel, q⟩ =>
    subst q
    cases (show u = Value.bool true from rel)
    refine ⟨rfl, OldK.of_keep fun b o e => ?_, os, bare⟩
    by_cases n : H b = none
    · exact un.keep b o e n (fun z => nomatch (show b ∈ ([] : List Addr) from z)) (fun z => nomatch z)
    · obtain ⟨rfl, ⟨ob, xs, z⟩, _⟩ := L.one b n
      obtain ⟨e1, _⟩ := L.ok _ _ z
      obtain ⟨e2, _⟩ := ok' _ _ (un.frzs _ _ _ z)
      rw [e] at e1
      cases e1
      exact e2
  | .ok .next, h => exact False.elim h
  | .ok .brk, h => exact False.elim h
  | .ok .cont, h => exact False.elim h
  | .error e, ⟨_, _, _, _, _, _, _, _, _, _, _, _, z⟩ => exact z.elim
end
theorem walk_px {l : PySem.W.OpenLaw} {n k : Nat} {q : Program} {loose : List Str} {XP : (Str → Option Value) → Heap → Prop} {YP : World → Heap → Prop} {d : DefRec} {K : Params → PySem.W.Frag} {D : FD}
    (hn : l.most = some n) (hn2 : n ≤ sizeLine) (hdf : d.params.defaults = []) (hr : Room k callerA) (hY : ∀ (w : World) (h : Heap), YP w h → (K w.params).In h)
    (F : ∀ (w : World) (mg : Str → Option Value) (fa : Addr) (h : Heap), (K w.params).In h → h.Ns mainGlobals mg → mg d.name = some (.ref fa) →
      ∃ fd : FuncData, (∀ (s : Shared) (u : Value), BindsTo s fd ⟨[u], []⟩ [("script", u)]) ∧ ∃ ct : Gx,
        ∀ base : Heap, (K w.params).In base → base.Ns mainGlobals mg → FnG l.prog w (K w.params) mg base (L2.CX l.prog w) k fa fd ["script"] (spOf (K w.params) ct (List.length (α := Str) ["script"]) D))
    (hD : ∀ ns : List Int, ns.length ≤ n → (∀ z ∈ ns, Builtin.Int.intBits z ≤ 1048576) → D [.val (.list (ns.map .int))] = .rt (.bool true) []) :
    PySem.W.WalkO q loose XP YP l.row.toRowW d [] (fun f vs => PySem.call f vs) := by
  refine Att.attach_callB hn hdf fun w s₀ s₁ mg mb fa o pm cd doc a vs ns G Y ho hd hcd hmg hobj hints hlen hbits hg => ?_
  have KX := hY w _ Y
  obtain ⟨fd, hb, ct, hF⟩ := F w mg fa _ KX G.T.g hmg
  exact law_end KX G.T.g G.T.b G.T.builtins G.T.nolimit hg hobj hints (Nat.le_trans hlen hn2) hr hF hb (hD ns hlen hbits)
end Px
namespace Px
open PySem PySem.Spec PyProof.Rows L2
section
variable {K : PySem.W.Frag} {C D : Addr} {b b2 : Bool} {t c1 c2 : Value}
/-- own classes asked of own classes -/
theorem kit_ref (hd : PySem.W.hasDictIn K C = true) (ht : PySem.W.typeIn K (.ref C) = some (.type "type")) (h : PySem.W.subIn K (.ref D) (.ref C) = some b) (hb : D = C → b = true) : PySem.W.kitOne K (.ref D) (.ref C) = some b := by
  unfold PySem.W.kitOne
  by_cases e : (Value.ref D == Value.ref C) = true
  · rw [if_pos e]
    have e' : D = C := Value.ref.inj (eq_of_beq e)
    rw [hb e']
  · rw [if_neg e]
    obtain ⟨cd, hc, _⟩ := PySem.W.any_some hd
    have hq : ((PySem.W.clsIn K C).isSome && PySem.W.typeIn K (.ref C) == some (.type "type")) = true := by rw [hc, ht] <;> rfl
    show (if ((PySem.W.clsIn K C).isSome && PySem.W.typeIn K (.ref C) == some (.type "type")) = true then PySem.W.subIn K (.ref D) (.ref C) else none) = some b
    rw [if_pos hq]
    exact h
theorem kit_two (h1 : PySem.W.kitOne K t c1 = some b) (h2 : PySem.W.kitOne K t c2 = some b2) : PySem.W.kitAny K t [c1, c2] = some (b || b2) := by
  unfold PySem.W.kitAny
  rw [h1]
  cases b with
  | true => rfl
  | false =>
    unfold PySem.W.kitAny
    rw [h2]
    cases b2 <;> rfl
end
end Px
/-! PxS: what a def's function gives, step by step -/
namespace Px
open PySem PySem.Spec PyProof.Rows L2
section
variable {sl sl1 : Sls} {st st1 st2 st3 st4 : Sto} {e1 e2 : EV} {a b c d : PyData} {r : OR} {f f1 f2 f3 : FE} {R : RS} {k : Bool}
theorem u1_ok {g : PyData → Option OR} (h1 : f sl st = .ok e1 st1) (d1 : e1.dat st1 = some a) (h : g a = some r) : u1 g f sl st = .ok r.ev st1 := by unfold u1; rw [h1]; dsimp only; rw [d1]; dsimp only; rw [h]
theorem u2_ok {g : PyData → PyData → Option OR} (h1 : f1 sl st = .ok e1 st1) (h2 : f2 sl st1 = .ok e2 st2) (d1 : e1.dat st2 = some a) (d2 : e2.dat st2 = some b) (h : g a b = some r) : u2 g f1 f2 sl st = .ok r.ev st2 := by
  unfold u2; rw [h1]; dsimp only; rw [h2]; dsimp only; rw [d1, d2]; dsimp only; rw [h]
theorem t2_ok {g : PyData → PyData → Option Bool} (h1 : f1 sl st = .ok e1 st1) (h2 : f2 sl st1 = .ok e2 st2) (d1 : e1.dat st2 = some a) (d2 : e2.dat st2 = some b) (h : g a b = some k) : t2 g f1 f2 sl st = .ok k st2 := by
  unfold t2; rw [h1]; dsimp only; rw [h2]; dsimp only; rw [d1, d2]; dsimp only; rw [h]
theorem un_ok {g : List PyData → Option OR} {fa : FA} {es : List EV} {ds : List PyData} (h1 : fa sl st = .ok es st1) (h2 : datAll st1 es = some ds) (h : g ds = some r) : un g fa sl st = .ok r.ev st1 := by
  unfold un; rw [h1]; dsimp only; rw [h2]; dsimp only; rw [h]
theorem aCons_ok {g : FA} {es : List EV} (h1 : f sl st = .ok e1 st1) (h2 : g sl st1 = .ok es st2) : aCons f g sl st = .ok (e1.soft :: es) st2 := by unfold aCons; rw [h1]; dsimp only; rw [h2]
theorem eDisp_ok {mk : List PyData → OR} {fa : FA} {es : List EV} {ds : List PyData} (h1 : fa sl st = .ok es st1) (h2 : fixAll st1 es = some (ds, st2)) (hl : ds.length ≤ Lim) : eDisp mk fa sl st = .ok (mk ds).ev st2 := by
  unfold eDisp; rw [h1]; dsimp only; rw [h2]; dsimp only; rw [if_pos hl]
theorem eTup_ok {fa : FA} {es : List EV} {ds : List PyData} (h1 : fa sl st = .ok es st1) (h2 : fixAll st1 es = some (ds, st2)) (hl : ds.length ≤ Lim) : eTup fa sl st = .ok (.val (.tuple ds)) st2 := eDisp_ok h1 h2 hl
theorem eLst_ok {fa : FA} {es : List EV} {ds : List PyData} (h1 : fa sl st = .ok es st1) (h2 : fixAll st1 es = some (ds, st2)) (hl : ds.length ≤ Lim) : eLst fa sl st = .ok (.new (.lst ds)) st2 := eDisp_ok h1 h2 hl
theorem eCall_ok {D : FD} {ms : List Bool} {fa : FA} {es : List EV} {rs : List (PyData ⊕ Nat)} {as : List Arg} {ns : List Nat} {os : List MO} (h1 : fa sl st = .ok es st1) (h2 : fixM ms es st1 = some (rs, st2)) (h3 : argsM st2 rs = some (as, ns)) (h4 : ns.Nodup) (h5 : D as = .rt d os) (h6 : os.length = ns.length) :
    eCall D ms fa sl st = .ok (.val d) (putAll st2 ns os) := by
  unfold eCall; rw [h1]; dsimp only; rw [h2]; dsimp only; rw [h3]; dsimp only; rw [if_pos h4, h5]; dsimp only; rw [if_pos h6]
theorem tst_ok (h : f sl st = .ok (.val (.bool k)) st1) : tst f sl st = .ok k st1 := by unfold tst; rw [h]
theorem tNotF_ok {t : FT} (h : t sl st = .ok k st1) : tNotF t sl st = .ok (!k) st1 := by unfold tNotF; rw [h]
theorem eNot_ok (h : f sl st = .ok (.val (.bool k)) st1) : eNot f sl st = .ok (.val (.bool (!k))) st1 := by unfold eNot; rw [h]
theorem tOrF_ok {t u : FT} {T : Re Bool} (h : t sl st = .ok k st1) (q : (bif k then Re.ok true st1 else u sl st1) = T) : tOrF t u sl st = T := by
  unfold tOrF; rw [h]; cases k <;> exact q
theorem tAndF_ok {t u : FT} {T : Re Bool} (h : t sl st = .ok k st1) (q : (bif k then u sl st1 else Re.ok false st1) = T) : tAndF t u sl st = T := by
  unfold tAndF; rw [h]; cases k <;> exact q
theorem eOr_ok {T : Re EV} (h : f sl st = .ok (.val (.bool k)) st1) (q : (bif k then Re.ok (.val (.bool true)) st1 else f2 sl st1) = T) : eOr f f2 sl st = T := by
  unfold eOr; rw [h]; cases k <;> exact q
theorem eAnd_ok {T : Re EV} (h : f sl st = .ok (.val (.bool k)) st1) (q : (bif k then f2 sl st1 else Re.ok (.val (.bool false)) st1) = T) : eAnd f f2 sl st = T := by
  unfold eAnd; rw [h]; cases k <;> exact q
theorem eIf_ok {t : FT} {T : Re EV} (h : t sl st = .ok k st1) (q : (bif k then f sl st1 else f2 sl st1) = T) : eIf t f f2 sl st = T := by
  unfold eIf; rw [h]; cases k <;> exact q
theorem eOfT_ok {t : FT} (h : t sl st = .ok k st1) : eOfT t sl st = .ok (.val (.bool k)) st1 := by unfold eOfT; rw [h]
theorem sIf_ok {t : FT} {g1 g2 : FS} (h : t sl st = .ok k st1) (q : (bif k then g1 sl st1 else g2 sl st1) = R) : sIf t g1 g2 sl st = R := by
  unfold sIf; rw [h]; cases k <;> exact q
theorem sSeq_ok {g1 g2 : FS} (h : g1 sl st = .nx sl1 st1) (q : g2 sl1 st1 = R) : sSeq g1 g2 sl st = R := by unfold sSeq; rw [h]; exact q
theorem sSeq_rt {g1 g2 : FS} (h : g1 sl st = .rt d st1) : sSeq g1 g2 sl st = .rt d st1 := by unfold sSeq; rw [h]
theorem sSeq_exc {g1 g2 : FS} {x : Exn} (h : g1 sl st = .exc x sl1 st1) : sSeq g1 g2 sl st = .exc x sl1 st1 := by unfold sSeq; rw [h]
theorem sSet_ok {own : Bool} {i : Nat} (h : f sl st = .ok e1 st1) (q : sTell own i e1 sl st1 = R) : sSet own i f sl st = R := by unfold sSet; rw [h]; exact q
theorem sRet_ok (h : f sl st = .ok e1 st1) (q : e1.fix st1 = some (d, st2)) : sRet f sl st = .rt d st2 := by unfold sRet; rw [h]; dsimp only; rw [q]
theorem sExpr_ok (h : f sl st = .ok e1 st1) : sExpr f sl st = .nx sl st1 := by unfold sExpr; rw [h]
theorem sSetIx_ok {fv fo fi : FE} {n j : Nat} {i : Int} {xs : List PyData} (h1 : fv sl st = .ok e1 st1) (h0 : e1.fix st1 = some (d, st2)) (h2 : fo sl st2 = .ok (.bor n) st3) (h3 : fi sl st3 = .ok (.val (.int i)) st4) (h4 : lstAt st4 n = some xs) (h5 : ixN xs.length i = some j) :
    sSetIx fv fo fi sl st = .nx sl (putAt st4 n (.lst (xs.set j d))) := by
  unfold sSetIx; rw [h1]; dsimp only; rw [h0]; dsimp only; rw [h2]; dsimp only; rw [h3]; dsimp only; rw [h4]; dsimp only; rw [h5]
theorem sForI_ok {fi : FI} {h : FG} {g : FS} {ds : List PyData} (h1 : fi sl st = .ok ds st1) (q : sFor h g ds sl st1 = R) : sForI fi h g sl st = R := by unfold sForI; rw [h1]; exact q
theorem iSeq_list {ds : List PyData} (h : f sl st = .ok e1 st1) (q : e1.fix st1 = some (.list ds, st2)) : iSeq f sl st = .ok ds st2 := by unfold iSeq; rw [h]; dsimp only; rw [q]
theorem iSeq_tup {ds : List PyData} (h : f sl st = .ok e1 st1) (q : e1.fix st1 = some (.tuple ds, st2)) : iSeq f sl st = .ok ds st2 := by unfold iSeq; rw [h]; dsimp only; rw [q]
theorem iR1_ok {n : Int} (h : f sl st = .ok (.val (.int n)) st1) (q : Small n) : iR1 f sl st = .ok (rngL 0 n.toNat) st1 := by unfold iR1; rw [h]; dsimp only; rw [if_pos q]
theorem eLc_ok {vs : List Nat} {fi : FI} {h : FG} {t : FT} {ds es : List PyData} (h1 : fi sl st = .ok ds st1) (h2 : lcGo h t f (wipeS sl vs) ds st1 = some (es, st2)) (hl : es.length ≤ Lim) : eLc vs fi h t f sl st = .ok (.new (.lst es)) st2 := by
  unfold eLc; rw [h1]; dsimp only; rw [h2]; dsimp only; rw [if_pos hl]
theorem int2_ok {C : Int → Int → Prop} [∀ i j, Decidable (C i j)] {g : Int → Int → Int} {i j : Int} (h : C i j) : int2 C g (.int i) (.int j) = some (.val (.int (g i j))) := if_pos h
theorem runD_rt {n : Nat} {g : FS} {as : List Arg} (h : g (slots0 as 0 ++ List.replicate (n - as.length) .non) (cells0 as) = .rt d st) : runD n g as = .rt d (outs st) := by unfold runD; rw [h]; rfl
theorem runD_rn {n : Nat} {g : FS} {as : List Arg} {o : MO} (h : g (slots0 as 0 ++ List.replicate (n - as.length) .non) (cells0 as) = .rn o st) : runD n g as = .rn o (outs st) := by unfold runD; rw [h]; rfl
theorem sRetW_ok {o : MO} (h : f sl st = .ok (.new o) st1) : sRetW f sl st = .rn o st1 := by unfold sRetW; rw [h]
theorem eCall_new {D : FD} {ms : List Bool} {fa : FA} {es : List EV} {rs : List (PyData ⊕ Nat)} {as : List Arg} {ns : List Nat} {os : List MO} {o : MO} (h1 : fa sl st = .ok es st1) (h2 : fixM ms es st1 = some (rs, st2)) (h3 : argsM st2 rs = some (as, ns)) (h4 : ns.Nodup) (h5 : D as = .rn o os) (h6 : os.length = ns.length) :
    eCall D ms fa sl st = .ok (.new o) (putAll st2 ns os) := by
  unfold eCall; rw [h1]; dsimp only; rw [h2]; dsimp only; rw [h3]; dsimp only; rw [if_pos h4, h5]; dsimp only; rw [if_pos h6]
theorem runD_exc {n : Nat} {g : FS} {as : List Arg} {x : Exn} (h : g (slots0 as 0 ++ List.replicate (n - as.length) .non) (cells0 as) = .exc x sl st) : runD n g as = .exc x (outs st) := by unfold runD; rw [h]; rfl
theorem bif_t {α : Type} {k : Bool} {x y z : α} (h : k = true) (q : x = z) : (bif k then x else y) = z := by rw [h]; exact q
theorem bif_f {α : Type} {k : Bool} {x y z : α} (h : k = false) (q : y = z) : (bif k then x else y) = z := by rw [h]; exact q
end
end Px
/-! PxT: loops by what stays; texts as lists of signs -/
namespace Px
open PySem PySem.Spec PyProof.Rows L2

theorem sFor_inv {h : FG} {b : FS} (I : Nat → Sls → Sto → Prop) : ∀ (ds : List PyData) (n : Nat) (sl : Sls) (st : Sto), I n sl st →
    (∀ (i : Nat) (d : PyData) (sl : Sls) (st : Sto), ds[i]? = some d → I (n + i) sl st → ∃ sl1, h d sl = some sl1 ∧ ∃ sl2 st2, b sl1 st = .nx sl2 st2 ∧ I (n + i + 1) sl2 st2) →
    ∃ sl' st', sFor h b ds sl st = .nx sl' st' ∧ I (n + ds.length) sl' st'
  | [], n, sl, st, h0, _ => ⟨sl, st, rfl, h0⟩
  | d :: ds, n, sl, st, h0, step => by
    obtain ⟨sl1, e1, sl2, st2, e2, i2⟩ := step 0 d sl st rfl h0
    obtain ⟨sl', st', e3, i3⟩ := sFor_inv I ds (n + 1) sl2 st2 i2 fun i d' sl st hd hi => by
      have := step (i + 1) d' sl st (by simpa using hd) (by rw [show n + (i + 1) = n + 1 + i by omega]; exact hi)
      rw [show n + (i + 1) + 1 = n + 1 + i + 1 by omega] at this
      exact this
    refine ⟨sl', st', ?_, by rw [List.length_cons, show n + (ds.length + 1) = n + 1 + ds.length by omega]; exact i3⟩
    unfold sFor
    rw [e1]
    dsimp only
    rw [e2]
    exact e3
theorem lcGo_inv {h : FG} {t : FT} {f : FE} {sl0 : Sls} (J : Nat → List PyData → Sto → Prop) : ∀ (ds : List PyData) (n : Nat) (acc : List PyData) (st : Sto), J n acc st →
    (∀ (i : Nat) (d : PyData) (acc : List PyData) (st : Sto), ds[i]? = some d → J (n + i) acc st → ∃ sl1, h d sl0 = some sl1 ∧ ∃ k st1, t sl1 st = .ok k st1 ∧ (k = false → J (n + i + 1) acc st1) ∧ (k = true → ∃ ev st2 e st3, f sl1 st1 = .ok ev st2 ∧ ev.fix st2 = some (e, st3) ∧ J (n + i + 1) (acc ++ [e]) st3)) →
    ∃ es st', lcGo h t f sl0 ds st = some (es, st') ∧ J (n + ds.length) (acc ++ es) st'
  | [], n, acc, st, h0, _ => ⟨[], st, rfl, by rw [List.append_nil]; exact h0⟩
  | d :: ds, n, acc, st, h0, step => by
    obtain ⟨sl1, e1, k, st1, e2, k0, k1⟩ := step 0 d acc st rfl h0
    have more : ∀ (i : Nat) (d : PyData) (acc : List PyData) (st : Sto), ds[i]? = some d → J (n + 1 + i) acc st → ∃ sl1, h d sl0 = some sl1 ∧ ∃ k st1, t sl1 st = .ok k st1 ∧ (k = false → J (n + 1 + i + 1) acc st1) ∧ (k = true → ∃ ev st2 e st3, f sl1 st1 = .ok ev st2 ∧ ev.fix st2 = some (e, st3) ∧ J (n + 1 + i + 1) (acc ++ [e]) st3) := fun i d' acc st hd hi => by
      have := step (i + 1) d' acc st (by simpa using hd) (by rw [show n + (i + 1) = n + 1 + i by omega]; exact hi)
      rw [show n + (i + 1) + 1 = n + 1 + i + 1 by omega] at this
      exact this
    cases k with
    | false =>
      obtain ⟨es, st', e3, i3⟩ := lcGo_inv J ds (n + 1) acc st1 (k0 rfl) more
      refine ⟨es, st', ?_, by rw [List.length_cons, show n + (ds.length + 1) = n + 1 + ds.length by omega]; exact i3⟩
      unfold lcGo
      rw [e1]
      dsimp only
      rw [e2]
      exact e3
    | true =>
      obtain ⟨ev, st2, e, st3, f1, f2, i2⟩ := k1 rfl
      obtain ⟨es, st', e3, i3⟩ := lcGo_inv J ds (n + 1) (acc ++ [e]) st3 i2 more
      refine ⟨e :: es, st', ?_, by rw [List.length_cons, show n + (ds.length + 1) = n + 1 + ds.length by omega, show acc ++ e :: es = acc ++ [e] ++ es by simp]; exact i3⟩
      unfold lcGo
      rw [e1]
      dsimp only
      rw [e2]
      dsimp only
      rw [f1]
      dsimp only
      rw [f2]
      dsimp only
      rw [e3]
/-- a comprehension that changes nothing: by each item -/
theorem lcGo_map {h : FG} {t : FT} {f : FE} {sl0 : Sls} {st : Sto} (p : PyData → Bool) (g : PyData → PyData) : ∀ (ds : List PyData),
    (∀ d ∈ ds, ∃ sl1, h d sl0 = some sl1 ∧ t sl1 st = .ok (p d) st ∧ (p d = true → ∃ ev, f sl1 st = .ok ev st ∧ ev.fix st = some (g d, st))) → lcGo h t f sl0 ds st = some ((ds.filter p).map g, st)
  | [], _ => rfl
  | d :: ds, step => by
    obtain ⟨sl1, e1, e2, e3⟩ := step d List.mem_cons_self
    have ih := lcGo_map p g ds fun d hd => step d (List.mem_cons_of_mem _ hd)
    unfold lcGo
    rw [e1]
    dsimp only
    rw [e2]
    cases hp : p d with
    | false =>
      rw [List.filter_cons_of_neg (by rw [hp]; exact Bool.false_ne_true)]
      exact ih
    | true =>
      obtain ⟨ev, f1, f2⟩ := e3 hp
      dsimp only
      rw [f1]
      dsimp only
      rw [f2]
      dsimp only
      rw [ih, List.filter_cons_of_pos hp]
      rfl
/-! ### texts -/
/-- the text of these signs -/
def tx (l : List Nat) : Str := ⟨l.toArray⟩
theorem tx_len (l : List Nat) : (tx l).length = l.length := List.size_toArray ..
theorem tx_inj {a b : List Nat} (h : tx a = tx b) : a = b := by
  have : (tx a).cps.toList = (tx b).cps.toList := by rw [h]
  simpa [tx] using this
theorem tx_app (a b : List Nat) : tx a ++ tx b = tx (a ++ b) := by
  show Str.mk (a.toArray ++ b.toArray) = _
  rw [List.append_toArray]
  rfl
theorem add_tx {a b : List Nat} (h : a.length + b.length ≤ Lim) : addD (.str (tx a)) (.str (tx b)) = some (.val (.str (tx (a ++ b)))) := by
  show (if (tx a).length + (tx b).length ≤ Lim then some (OR.val (.str (tx a ++ tx b))) else none) = _
  rw [if_pos (by rw [tx_len, tx_len]; exact h), tx_app]
theorem cut_tx {a : List Nat} {lo hi : Option Int} (h : a.length ≤ Lim) : cutD lo hi (.str (tx a)) = some (.val (.str (tx (cutL a lo hi)))) := by
  show (if (tx a).length ≤ Lim then some (OR.val (.str (cutS (tx a) lo hi))) else none) = _
  rw [if_pos (by rw [tx_len]; exact h)]
  congr 3
theorem ix_tx {a : List Nat} {i : Nat} (hi : i < a.length) (h : a.length ≤ Lim) : ixD (.str (tx a)) (.int i) = some (.val (.str (tx [a[i]]))) := by
  show (if (tx a).length ≤ Lim then (atI (tx a).cps.toList (i : Int)).map (fun c => OR.val (.str ⟨#[c]⟩)) else none) = _
  rw [if_pos (by rw [tx_len]; exact h)]
  have e : atI (tx a).cps.toList (i : Int) = some a[i] := by
    unfold atI ixN tx
    simp [hi]
  rw [e]
  rfl
theorem strs_tx : ∀ l : List Nat, strsOf (l.map fun c => .str (tx [c])) = some (l.map fun c => tx [c])
  | [] => rfl
  | c :: l => by
    show (strsOf (l.map fun c => .str (tx [c]))).map (tx [c] :: ·) = _
    rw [strs_tx l]
    rfl
theorem join_tx : ∀ l : List Nat, Txt.join "" (l.map fun c => tx [c]) = tx l := by
  intro l
  rw [TL.join_eq]
  have e0 : ("" : Str) = tx [] := rfl
  rw [e0]
  induction l with
  | nil => rfl
  | cons c l ih =>
    cases l with
    | nil => rfl
    | cons d l =>
      show tx [c] ++ tx [] ++ Str.join (tx []) ((d :: l).map fun c => tx [c]) = _
      rw [ih, tx_app, tx_app]
      rfl
theorem joinD_tx {l : List Nat} (h : l.length ≤ 1000) : joinD "" (.list (l.map fun c => .str (tx [c]))) = some (.val (.str (tx l))) := by
  show (match strsOf (l.map fun c => .str (tx [c])) with
    | none => none
    | some ys => if (ys.map Str.length).sum + ys.length * ("" : Str).length ≤ 16777216 then some (OR.val (.str (Txt.join "" ys))) else none) = _
  rw [strs_tx]
  dsimp only
  have e : ((l.map fun c => tx [c]).map Str.length).sum = l.length := by
    clear h
    induction l with
    | nil => rfl
    | cons c l ih =>
      rw [List.map_cons, List.map_cons, List.sum_cons, ih, tx_len]
      simp only [List.length_cons, List.length_nil]
      omega
  rw [if_pos, join_tx]
  rw [e, List.length_map]
  have z : ("" : Str).length = 0 := rfl
  rw [z]
  omega
end Px
/-! PxU: exceptions as values: made of a text, asked for their class, for their number -/
namespace Px
open PySem PySem.Spec PyProof.Rows L2

def exD (nm : Str) : PyData := .dict [(.none, .str nm)]
def exN (nm : Str) (i : Int) : PyData := .dict [(.none, .str nm), (.none, .int i)]
/-- what a class must say for isinstance of its objects -/
structure ExV (K : PySem.W.Frag) (D : Addr) : Prop where
  hc : (PySem.W.clsIn K D).isSome = true
  hg : PySem.W.findIn K (.ref D) "__getattribute__" = some (some (.builtin "BaseException.__getattribute__"))
  hk : PySem.W.findIn K (.ref D) "__getattr__" = some none
  hs : PySem.W.subIn K (.ref D) (.type "BaseException") = some true
  ha : PySem.W.findIn K (.ref D) "__class__" = some (some (.builtin "object.__class__"))
  hn : PySem.W.specialIn K (.builtin "object.__class__") "__get__" = some (some (.builtin "getset_descriptor.__get__"))
  ht : PySem.W.takesIn K (.builtin "object.__class__") = some true
  hm : PySem.W.mroIn K D (.type "object") = some true
/-- an exception of the class at D stands at a -/
def ExAt (H : Hp) (a D : Addr) : Prop := H a = some (ExO (.ref D) a) ∨ ∃ dx i, H a = some (exo a D (some dx)) ∧ H dx = some (numO dx i)
section
variable {X : Cx} {ct : Gx} {W : WX} {pins : List (Addr × Obj)} {σ : L2.St} {H : Hp} {s : Shared} {a D dx : Addr} {i : Int}
theorem num_at {P : Program} {w : World} {h : Heap} (hok : HOk P w H h) (he : H dx = some (numO dx i)) : ∃ (od : Obj) (t : Tok), h.get? dx = some od ∧ PySem.W.lookIn "number" od = some (some (.int i t)) := by
  have z : ObjOk P w H h dx (.ext fun h => ∃ (od : Obj) (t : Tok), h.get? dx = some od ∧ PySem.W.lookIn "number" od = some (some (.int i t))) := hok dx _ he
  exact z.1
theorem ExAt.inst (I : L2.Inv X pins σ H s) (e : ExAt H a D) : ∃ ox od, PySem.W.InstAt s.heap a ox D od := by
  rcases e with e | ⟨dx, i, e, e2⟩
  · have z : ObjOk X.prog X.w H s.heap a (.ext fun h => ∃ (oe : Obj) (vs : Array Value), h.get? a = some oe ∧ Zc (.ref D) none oe ∧ oe.data = .fields vs ∧ vs[1]? = some .none ∧ vs[2]? = some .none ∧ 4 < vs.size) := I.hok a _ e
    obtain ⟨⟨oe, vs, g, ⟨z1, z2⟩, hv, _⟩, _⟩ := z
    obtain ⟨oc, od, oda, osl⟩ := oe
    dsimp only at z1 z2 hv
    subst z1 z2 hv
    exact ⟨_, none, g, rfl, rfl, trivial⟩
  · obtain ⟨t1, g⟩ := exo_at I.hok e
    obtain ⟨od, t, g2, _⟩ := num_at I.hok e2
    exact ⟨_, some od, g, rfl, rfl, g2⟩
/-- isinstance(e, c) -/
def rIsa (K : PySem.W.Frag) : List V → Hp → VK → Prop := fun xs H Q => ∃ (a D : Addr) (c : V) (cv : Value) (b : Bool), xs = [.ref a, c] ∧ ExAt H a D ∧ (∀ u, RelV c u → u = cv) ∧ ExV K D ∧ PySem.W.kitOne K (.ref D) cv = some b ∧ Q (.bl b) H
theorem call_isa : CallR X (.builtin "isinstance") (rIsa X.K) := by
  intro pins s σ H xs us Q I r h
  obtain ⟨a, D, c, cv, b, rfl, he, hcv, C, e, q⟩ := h
  obtain ⟨u1, u2, rfl, r1, r2⟩ := vals2 r
  cases (show u1 = Value.ref a from r1)
  have ec := hcv _ r2
  subst ec
  obtain ⟨ox, od, J⟩ := he.inst I
  exact PySem.W.kia_one (PySem.W.kitx_exc C.hc C.hg C.hk C.hs C.ha C.hn C.ht C.hm) I.kIn J e (fun z => nomatch z) fun tk => ⟨.bl b, H, I.kept (t' := tk) fun _ _ z => z, rfl, q⟩
/-- by the classes' names -/
def isaD (l : List (Str × Bool)) : PyData → Option OR
  | .dict ((.none, .str nm) :: _) => match l.lookup nm with
    | some b => some (.val (.bool b))
    | none => none
  | _ => none
theorem keyD_ne (k : Key) : keyD k ≠ .none := by cases k <;> (intro z; cases z)
theorem RpD.key {K : PySem.W.Frag} {F : Addr → Prop} : ∀ {vs : List (Key × V)} {ds : List (PyData × PyData)}, RpD K F H vs ds → ∀ p ∈ ds, p.1 ≠ .none
  | _, _, .nil, p, h => by cases h
  | _, _, .cons (k := k) a r, p, h => by
    rcases List.mem_cons.mp h with e | h
    · rw [e]; exact keyD_ne k
    · exact RpD.key r p h
theorem Bp.ex {K : PySem.W.Frag} {F : Addr → Prop} {v : V} {nm : Str} {r : List (PyData × PyData)} (h : Bp K F H v (.dict ((.none, .str nm) :: r))) : ∃ a D, v = .ref a ∧ PySem.W.nsIn K mainGlobals nm = some (some (.ref D)) ∧ ExAt H a D := by
  generalize e : PyData.dict ((.none, .str nm) :: r) = d at h
  cases h with
  | rp h =>
    cases h with
    | dic f h q => cases e; exact absurd rfl (RpD.key q _ List.mem_cons_self)
    | exn f n h => cases e; exact ⟨_, _, rfl, n, .inl h⟩
    | exm f g n h k => cases e; exact ⟨_, _, rfl, n, .inr ⟨_, _, h, k⟩⟩
    | _ => cases e
  | dic h q => cases e; exact absurd rfl (RpD.key q _ List.mem_cons_self)
  | lst h q => cases e
theorem Bp.exn {K : PySem.W.Frag} {F : Addr → Prop} {v : V} {nm : Str} {i : Int} {r : List (PyData × PyData)} (h : Bp K F H v (.dict ((.none, .str nm) :: (.none, .int i) :: r))) : ∃ a D dx, v = .ref a ∧ PySem.W.nsIn K mainGlobals nm = some (some (.ref D)) ∧ H a = some (exo a D (some dx)) ∧ H dx = some (numO dx i) := by
  generalize e : PyData.dict ((.none, .str nm) :: (.none, .int i) :: r) = d at h
  cases h with
  | rp h =>
    cases h with
    | dic f h q => cases e; exact absurd rfl (RpD.key q _ List.mem_cons_self)
    | exn f n h => cases e
    | exm f g n h k => cases e; exact ⟨_, _, _, rfl, n, h, k⟩
    | _ => cases e
  | dic h q => cases e; exact absurd rfl (RpD.key q _ List.mem_cons_self)
  | lst h q => cases e
/-- isinstance(e, C): C of the program, or built in -/
theorem se_isa {x y : Str} {p p2 pos : Pos} {e : Expr} {f : FE} {c : V} {cv : Value} (l : List (Str × Bool)) (ok : ∀ nm b D, l.lookup nm = some b → PySem.W.nsIn X.K mainGlobals nm = some (some (.ref D)) → ExV X.K D ∧ PySem.W.kitOne X.K (.ref D) cv = some b) (py : PE X (.Name y p2) (tC c)) (hcv : ∀ u, RelV c u → u = cv)
    (hx : x = "isinstance") (hg : Gl X x) (hm : X.mg x = none) (he : SE X ct W e f) (hs : starEach [e, .Name y p2] X.env = (false, eval e X.env) :: starEach [.Name y p2] X.env := by rfl) (hpl : (backTo pos (starEach [.Name y p2] X.env)).any (·.1) = false := by rfl) :
    SE X ct W (.Call (.Name x p) [e, .Name y p2] [] pos) (u1 (isaD l) f) := by
  subst hx
  have rule : ∀ ta, PE X e ta → PE X (.Call (.Name "isinstance" p) [e, .Name y p2] [] pos) (fun σ H Q => ta σ H fun x H1 => rIsa X.K [x, c] H1 Q) := fun ta ha =>
    pe_callB call_isa hg hm boot_isinstance (pa_cons ha (pa_cons py pa_nil) hs) (by decide) (by decide) hs hpl
  refine se_u1 rule he fun F H v d o Q dm b e gv => ?_
  unfold isaD at e
  split at e
  · rename_i nm r
    split at e
    · rename_i k hk
      cases e
      obtain ⟨a, D, rfl, hn, hat⟩ := b.ex
      obtain ⟨C, hkit⟩ := ok nm k D hk hn
      exact ⟨a, D, c, cv, k, rfl, hat, hcv, C, hkit, gv.here dm (.bl k)⟩
    · cases e
  · cases e
/-- .number -/
def numD (l : List Str) : PyData → Option OR
  | .dict ((.none, .str nm) :: (.none, .int i) :: _) => if nm ∈ l then some (.val (.int i)) else none
  | _ => none
theorem se_num {e : Expr} {f : FE} {n : Str} {pos : Pos} (l : List Str) (hn : n = "number") (ok : ∀ nm D, nm ∈ l → PySem.W.nsIn X.K mainGlobals nm = some (some (.ref D)) → XfC X.K D ∧ PySem.W.findIn X.K (.ref D) n = some none) (he : SE X ct W e f)
    (hb : attributeBase e n X.env (eval e X.env) = eval e X.env := by rfl) : SE X ct W (.Attribute e n pos) (u1 (numD l) f) := by
  subst hn
  have rule : ∀ ta, PE X e ta → PE X (.Attribute e "number" pos) (fun σ H Q => ta σ H fun x H1 => ∃ a D dx i, x = .ref a ∧ H1 a = some (exo a D (some dx)) ∧ H1 dx = some (numO dx i) ∧ XfC X.K D ∧ PySem.W.findIn X.K (.ref D) "number" = some none ∧ Q (.int i) H1) := fun ta ha => by
    refine ⟨fun pins s σ H Q I h => attr_of hb (thn (ha.run pins s σ H _ I h) fun u s1 hh => ?_)⟩
    obtain ⟨x, H1, I1, rx, a, D, dx, i, rfl, h1, h2, C, hno, q⟩ := hh
    cases (show u = Value.ref a from rx)
    obtain ⟨t1, g⟩ := exo_at I1.hok h1
    obtain ⟨od, t, g2, lk⟩ := num_at I1.hok h2
    have J : PySem.W.InstAt s1.heap a _ D (some od) := ⟨g, rfl, rfl, g2⟩
    exact HandSPX.exc_get I1.kIn J C.ga C.gg C.exC (PySem.W.findObj_own C.hdC hno rfl lk) rfl ⟨.int i, H1, I1.tok _, ⟨t, rfl⟩, q⟩
  refine se_u1 rule he fun F H v d o Q dm b e gv => ?_
  unfold numD at e
  split at e
  · rename_i nm i r
    split at e
    · rename_i hm
      cases e
      obtain ⟨a, D, dx, rfl, hn, h1, h2⟩ := b.exn
      obtain ⟨C, hno⟩ := ok nm D hm hn
      exact ⟨a, D, dx, i, rfl, h1, h2, C, hno, gv.here dm (.int i)⟩
    · cases e
  · cases e
/-- C(text) -/
def mk1D (nm : Str) : PyData → Option OR := fun _ => some (.val (exD nm))
theorem se_mk1 {C : Addr} {bmB : List Value} {B newId initId : String} {x : Str} {e : Expr} {f : FE} {p pos : Pos} (F : ExcBaseFacts B newId initId bmB) (q : PySem.W.excIn X.K C bmB newId = true) (gC : X.mg x = some (.ref C)) (kC : PySem.W.keepIn X.K (.ref C) = true) (nC : PySem.W.nsIn X.K mainGlobals x = some (some (.ref C))) (hg : Gl X x)
    (he : SE X ct W e f) (hs : starEach [e] X.env = (false, eval e X.env) :: starEach [] X.env := by rfl) (hdb : (x == ("__debug__" : Str)) = false := by decide) : SE X ct W (.Call (.Name x p) [e] [] pos) (u1 (mk1D x) f) := by
  refine se_u1 (r := fun _ H Q => ∀ a, H a = none → Q (.ref a) (upd H a (ExO (.ref C) a))) (fun ta ha => pe_exc1 F q gC kC hg ha hs hdb) he fun F H v d o Q dm b e gv a ha => ?_
  cases e
  exact gv _ (fun b => F b ∨ b = a) _ (PEx.frz dm ha) (.exn (.inr rfl) nC upd_same)
end
end Px
/-! PxV: exceptions as values: made with a number, by a class whose __init__ says super().__init__(..) and keeps it -/
namespace Px
open PySem PySem.Spec PyProof.Rows L2 PySem.W PySem.Calls

/-- what is asked of the f-string: it is a text, whatever the number -/
def Joined (e : Expr) : Prop := ∀ (P : Program) (w : World) (A : Around) (E : Value → Shared → Prop) (env : Env) (s : Shared) (m : Str → Option Value) (i : Int) (t : Tok) (Q : Value → Shared → Prop), env.scope.kind = .function → env.kindOf "number" = some .local → s.heap.Ns env.locals m → m "number" = some (.int i t) → i.natAbs.log2 < 1920 →
  (∀ out tk t', Q (.str out tk) { s with toks := t' }) → wpAny (model P w) A (eval e env) Q E s
theorem num_len {i : Int} (h : i.natAbs.log2 < 1920) : (Str.ofString (toString i)).length ≤ 2000 := by
  have e := int_text_length_le (k := 1920) (by decide) h
  rw [PySem.ofString_length]; omega
theorem empty_len : Str.empty.length = 0 := rfl
theorem joined2 {x1 x2 : Expr} {a : Str} {j1 : Nat} {p1 p2 p3 pos : Pos} (e1 : x1 = .Constant (.str a) j1 p1) (e2 : x2 = .FormattedValue (.Name "number" p2) (-1) none p3) (ha : a.length ≤ 1000) : Joined (.JoinedStr [x1, x2] pos) := by
  subst e1 e2
  intro P w A E env s m i t Q hk hl hn hm hi hq
  refine wpAny_JoinedStr ?_
  refine Constant_str ⟨a, _, rfl, by show (Str.empty ++ a).length ≤ sizeLine; rw [Str.length_append, empty_len, sizeLine_eq]; omega, ?_⟩
  refine wpAny_FormattedValue_plain (wpAny_Name (wpAny_loadName_local hk hl hn hm (wpAny_formatField_int hi ⟨_, _, rfl, ?_, ?_⟩)) (by decide))
  · have := num_len hi
    show ((Str.empty ++ a) ++ Str.ofString (toString i)).length ≤ sizeLine
    rw [Str.length_append, Str.length_append, empty_len, sizeLine_eq]; omega
  · refine ⟨?_, hq _ _ _⟩
    have := num_len hi
    show ((Str.empty ++ a) ++ Str.ofString (toString i)).length ≤ sizeLine
    rw [Str.length_append, Str.length_append, empty_len, sizeLine_eq]; omega
theorem joined3 {x1 x2 x3 : Expr} {a b : Str} {j1 j2 : Nat} {p1 p2 p3 p4 pos : Pos} (e1 : x1 = .Constant (.str a) j1 p1) (e2 : x2 = .FormattedValue (.Name "number" p2) (-1) none p3) (e3 : x3 = .Constant (.str b) j2 p4) (ha : a.length ≤ 1000) (hb : b.length ≤ 1000) : Joined (.JoinedStr [x1, x2, x3] pos) := by
  subst e1 e2 e3
  intro P w A E env s m i t Q hk hl hn hm hi hq
  have hs := num_len hi
  refine wpAny_JoinedStr ?_
  refine Constant_str ⟨a, _, rfl, by show (Str.empty ++ a).length ≤ sizeLine; rw [Str.length_append, empty_len, sizeLine_eq]; omega, ?_⟩
  refine wpAny_FormattedValue_plain (wpAny_Name (wpAny_loadName_local hk hl hn hm (wpAny_formatField_int hi ⟨_, _, rfl, ?_, ?_⟩)) (by decide))
  · show ((Str.empty ++ a) ++ Str.ofString (toString i)).length ≤ sizeLine
    rw [Str.length_append, Str.length_append, empty_len, sizeLine_eq]; omega
  · refine Constant_str ⟨b, _, rfl, ?_, ⟨?_, hq _ _ _⟩⟩
    · show (((Str.empty ++ a) ++ Str.ofString (toString i)) ++ b).length ≤ sizeLine
      rw [Str.length_append, Str.length_append, Str.length_append, empty_len, sizeLine_eq]; omega
    · show (((Str.empty ++ a) ++ Str.ofString (toString i)) ++ b).length ≤ sizeLine
      rw [Str.length_append, Str.length_append, Str.length_append, empty_len, sizeLine_eq]; omega
end Px
namespace PxV
open PySem PySem.Spec PyProof.Rows PySem.W PySem.Calls
section
variable {prog : Program} {w : World} {K : PySem.W.Frag} {mg mb : Str → Option Value} {h0 : Heap} {A : Around} {E : Value → Shared → Prop} {s : Shared} {m : Str → Option Value}
/-- super() where a class's own __init__ runs -/
theorem super_at {body : List Stmt} {scope : Scope} {q : Str} {p0 p1 : Pos} {whole : Sem Value} {fd : FuncData} {ar : Arg} {vs : Array Value} {file : Str} {tf : Tok} {oc ccl cl : Value} {od cdd cld : Option Addr} {osl ccs csl : Array (Option Value)} {cd : ClassData} {f cda cc C x L : Addr} {ox : Obj} {odx : Option Obj} {news : List (Addr × Obj)} {Q : Value → Shared → Prop}
    (F : Fr h0 L s.heap m) (X0 : K.In h0) (N : News h0 L s.heap news) (glob : h0.Ns mainGlobals mg) (blt : h0.Ns builtinsNs mb) (hb : ∀ y : Str, y ≠ "__name__" → mb y = bootBuiltins y) (sup : mg "super" = none)
    (lk : K.lookup f = some ⟨oc, od, .func fd, osl⟩) (hp : (fd.params.posonlyargs ++ fd.params.args).head? = some ar) (ha : ar.arg = "self") (hv : m "self" = some (.ref x)) (I : InstAt s.heap x ox C odx)
    (lc : K.lookup cda = some ⟨ccl, cdd, .fields vs, ccs⟩) (hvs : vs[2]? = some (.str file tf)) (hfile : ((prog.main.file : Str) == file) = true) (lcc : K.lookup cc = some ⟨cl, cld, .cell (some (.ref C)), csl⟩) (hcl : clsIn K C = some cd) (hsub : mroIn K C (.ref C) = some true)
    (hks : scope.names.lookup ("super" : Str) = some .globalImplicit) (hkc : scope.names.lookup ("__class__" : Str) = some .free) (hka : scope.names.lookup ("self" : Str) = some .local) (hk : scope.kind = .function) (htop : (prog.main.scope.names.lookup ("super" : Str)).isSome = false)
    (go : ∀ so h', Fr h0 L h' m → News h0 L h' ((so, ks_superObj C x C) :: news) → (∀ p ∈ news, p.1 < so) → Q (.ref so) { s with heap := h' }) :
    _root_.PySem.wpAt (model prog w) A (.func body (ksEnv q scope L f (.ref cda) cc)) (attributeBase (.Call (.Name "super" p0) [] [] p1) "__init__" (ksEnv q scope L f (.ref cda) cc) whole) Q E s := by
  have KX : K.In s.heap := X0.keeps F.keep
  obtain ⟨oC, g1, g2⟩ : ∃ oC, s.heap.get? C = some oC ∧ oC.data = .cls cd := by
    unfold clsIn at hcl
    split at hcl
    · rename_i ho; cases hcl; exact ⟨_, KX _ _ ho, rfl⟩
    · cases hcl
  have lself : wpAny (model prog w) A (loadName (ksEnv q scope L f (.ref cda) cc) ar.arg) (fun self s₃ => self = .ref x ∧ s₃ = s) E s := by
    rw [ha]; exact wpAny_loadName_local hk hka F.ns hv ⟨rfl, rfl⟩
  refine ks_wpAt_super_base (env := ksEnv q scope L f (.ref cda) cc) hks hkc (by decide) rfl (KX _ _ lk) rfl hp rfl (KX _ _ lc) rfl hvs hfile htop (ks_loadName_global hk hks ?_)
  have bs : mb "super" = some (.type "super") := (hb "super" (by decide)).trans (by first | rfl | kernel_rfl)
  refine loadGlobal_builtin (glob.keeps F.keep) sup (blt.keeps F.keep) bs ⟨rfl, wpAny_loadName_free hk hkc rfl ⟨_, KX _ _ lcc, rfl⟩ (wpAny_mono lself (fun self s3 hs3 => ?_) fun _ _ z => z)⟩
  obtain ⟨rfl, rfl⟩ := hs3
  refine ks_wpAny_isType_cls g1 g2 ⟨rfl, ?_⟩
  obtain ⟨hh, gg, dd, tt, oo⟩ := s3
  refine ks_wpAny_call_super g1 g2 I.at_ I.cls (fun c e => ?_) (looks_mroIn KX hsub) fun h' e k => ?_
  · have z := I.no
    unfold notCls at z
    rw [e] at z
    cases z
  · obtain ⟨F', N', l'⟩ := ks_newsPush (s := ⟨hh, gg, dd, tt, oo⟩) F N rfl e k
    exact go _ _ F' N' l'
end

section
variable {prog : Program} {w : World} {K : PySem.W.Frag} {mg mb : Str → Option Value} {h0 : Heap} {A : Around} {s : Shared}
/-- __init__(self, number): super().__init__(text); self.number = number -/
theorem init_run {name q : Str} {params : Arguments} {body : List Stmt} {scope : Scope} {dV kV doc pm ct oc ccl cl : Value} {an od cdd cld : Option Addr} {osl ccs csl : Array (Option Value)} {f cda cc C e t0 : Addr} {ar : Arg} {vs : Array Value} {file : Str} {tf tk : Tok} {cd : ClassData} {i : Int} {B initId newId : String} {bmB : List Value} {js : List Expr}
    {p0 p1 p2 p3 p4 p5 p6 p7 p8 pj : Pos} {R : Result → Shared → Prop} {pl : Env → Sem Bool}
    (X0 : K.In h0) (glob : h0.Ns mainGlobals mg) (blt : h0.Ns builtinsNs mb) (hb : ∀ y : Str, y ≠ "__name__" → mb y = bootBuiltins y) (lim : h0.NoLimit) (sup : mg "super" = none)
    (keep : ∀ b o, h0.get? b = some o → s.heap.get? b = some o) (hsz : h0.objs.size ≤ s.heap.objs.size) (he : s.heap.get? e = some (excObj C t0 none .none)) (he0 : h0.get? e = none) (room : A.depth < recursionLimit)
    (lk : K.lookup f = some ⟨oc, od, .func (fnX name q params body scope [("__class__", cc)] dV kV doc pm an (.ref cda) ct), osl⟩) (hcd : codeIn K (.ref cda) q = true) (hp : (params.posonlyargs ++ params.args).head? = some ar) (ha : ar.arg = "self")
    (bind : BindsTo s (fnX name q params body scope [("__class__", cc)] dV kV doc pm an (.ref cda) ct) ⟨[.ref e, .int i tk], []⟩ [("self", .ref e), ("number", .int i tk)])
    (hbody : body = [.Expr (.Call (.Attribute (.Call (.Name "super" p0) [] [] p1) "__init__" p2) [.JoinedStr js pj] [] p3) p4, .Assign [.Attribute (.Name "self" p5) "number" p6] (.Name "number" p7) p8]) (hj : Px.Joined (.JoinedStr js pj))
    (hev : ∀ env : Env, eval (.Call (.Attribute (.Call (.Name "super" p0) [] [] p1) "__init__" p2) [.JoinedStr js pj] [] p3) env = (do
      let ov ← attributeBase (.Call (.Name "super" p0) [] [] p1) "__init__" env (eval (.Call (.Name "super" p0) [] [] p1) env)
      standAt p2.atName
      let (fx, fst) ← holding [ov] (getMethod ov "__init__" (pl env))
      callWith p3 fx fst (backTo p3 (starEach [.JoinedStr js pj] env)) []))
    (sw1 : ∀ env : Env, swapsWith (.Call (.Attribute (.Call (.Name "super" p0) [] [] p1) "__init__" p2) [.JoinedStr js pj] [] p3) none p4.line env = pure false) (sw2 : ∀ env : Env, swapsWith (.Name "number" p7) (some (.Attribute (.Name "self" p5) "number" p6)) p8.line env = pure false)
    (hi : i.natAbs.log2 < 1920)
    (lc : K.lookup cda = some ⟨ccl, cdd, .fields vs, ccs⟩) (hvs : vs[2]? = some (.str file tf)) (hfile : ((prog.main.file : Str) == file) = true) (lcc : K.lookup cc = some ⟨cl, cld, .cell (some (.ref C)), csl⟩) (hcl : clsIn K C = some cd) (hsub : mroIn K C (.ref C) = some true)
    (hks : scope.names.lookup ("super" : Str) = some .globalImplicit) (hkc : scope.names.lookup ("__class__" : Str) = some .free) (hka : scope.names.lookup ("self" : Str) = some .local) (hkn : scope.names.lookup ("number" : Str) = some .local) (hk : scope.kind = .function) (hco : scope.isCoroutine = false) (hgen : scope.isGenerator = false) (hcell : ∀ x ∈ scope.names, x.2 ≠ .cell)
    (htop : (prog.main.scope.names.lookup ("super" : Str)).isSome = false)
    (KF : KxsFacts B initId) (FB : ExcBaseFacts B newId initId bmB) (hq : excInitIn K C bmB newId = true) (hB : subIn K (.ref C) (.type B) = some true) (hsi : ks_superIn K C C "__init__" = some (some (.builtin initId))) (hth : nsIn K cStatics "thirdparty.any" = some none)
    (SF : StoreFacts B bmB "object.__setattr__" "object") (hsa : findIn K (.ref C) "__setattr__" = some (some (.builtin "object.__setattr__"))) (ho : excOver K C bmB = true) (ht : takerIn K C "number" = some none) (hh : hasDictIn K C = true)
    (go : ∀ dx t1 od h' tk1 tk2, (∀ b o, h0.get? b = some o → h'.get? b = some o) → h'.get? e = some (excObj C t1 (some dx) .none) → h'.get? dx = some od → lookIn "number" od = some (some (.int i tk2)) → h0.get? dx = none → dx ≠ e → R (.ok (.ret .none)) { s with heap := h', toks := tk1 }) :
    codeAny (model prog w) A (.call (.ref f) ⟨[.ref e, .int i tk], []⟩) R s := by
  have KX : K.In s.heap := X0.keeps keep
  refine ks_codeAny_call_defAt (fd := fnX name q params body scope [("__class__", cc)] dV kV doc pm an (.ref cda) ct) (body := body) (binds := [("self", .ref e), ("number", .int i tk)]) room (KX _ _ lk) rfl (lim.keeps keep) (codeRec_of KX hcd) rfl bind hcell ?_ (fun h1 hns k1 => ?_) hco hgen hk
  · intro y hy
    rcases List.mem_cons.mp hy with rfl | hy
    · exact hka
    · rw [List.mem_singleton.mp hy]; exact hkn
  generalize hL : s.heap.objs.size = L at hns ⊢
  have mself : (([("self", .ref e), ("number", .int i tk)] : List (Str × Value)).reverse.lookup ("self" : Str)) = some (.ref e) := by rfl
  have mnum : (([("self", .ref e), ("number", .int i tk)] : List (Str × Value)).reverse.lookup ("number" : Str)) = some (.int i tk) := by rfl
  have F : Fr h0 L h1 (fun y => ([("self", .ref e), ("number", .int i tk)] : List (Str × Value)).reverse.lookup y) := ⟨hns, fun b o g => k1 b o (keep b o g), hL ▸ hsz⟩
  have N : News h0 L h1 [(e, excObj C t0 none .none)] := fun p hp => by
    rw [List.mem_singleton.mp hp]
    exact ⟨k1 _ _ he, hL ▸ Nat.ne_of_lt (Heap.lt_size he), he0⟩
  subst hbody
  obtain ⟨hh1, gg, dd, tt, oo⟩ := s
  dsimp only at *
  refine ks_wpAt_execs_cons (ks_wpAt_Expr_any (ks_wpAt_MethodCall (pl := pl _) ?_ (hev _)) (by unfold interactive; simp [callEnv, newEnv, hk]) (sw1 _))
  · refine super_at (x := e) (C := C) (odx := none) (s := ⟨h1, gg, dd, _, oo⟩) F X0 N glob blt hb sup lk hp ha mself ⟨(N _ List.mem_cons_self).1, rfl, rfl, trivial⟩ lc hvs hfile lcc hcl hsub hks hkc hka hk htop ?_
    intro so h2 F2 N2 l2
    have es : @Ne Nat e so := Nat.ne_of_lt (l2 _ List.mem_cons_self)
    refine kxs_method KF F2 X0 N2 List.mem_cons_self (odx := none) ⟨(N2 (e, excObj C t0 none .none) (by simp)).1, rfl, rfl, trivial⟩ hth hsi hB (by decide) ?_
    intro u h3 F3 N3 l3
    have eu : @Ne Nat e u := Nat.ne_of_lt (l3 (e, excObj C t0 none .none) (by simp))
    refine kxs_callWith1 (i := initId) (x := e) N3 List.mem_cons_self ?_
    show wpAny _ _ (spliced ((false, eval (.JoinedStr js pj) _) :: backTo p3 (starEach [] _))) _ _ _
    refine Calls.spliced_cons (hj _ _ _ _ _ _ _ i tk _ hk hkn F3.ns mnum hi fun out t' t2 => Calls.spliced_nil ⟨(N3 _ List.mem_cons_self).1, ?_⟩)
    refine kxs_call (L := L) (s := ⟨h3, gg, dd, t2, oo⟩) F3 X0 N3 FB hq List.mem_cons_self (.tail eu.symm (.tail es.symm (.head fun _ z => nomatch z))) (by show 1 ≤ sizeLine; rw [sizeLine_eq]; omega) ?_
    intro t4 h4 F4 N4 l4
    refine ks_wpAt_execs_cons (ks_wpAt_Assign_Attr (wpAt_of_wpAny (wpAny_Name (wpAny_loadName_local hk hkn F4.ns mnum (wpAny_Name (wpAny_loadName_local hk hka F4.ns mself ?_) (by decide))) (by decide))) (sw2 _))
    · have et : @Ne Nat e t4 := Nat.ne_of_lt (l4 (e, excObj C t0 none .none) (by simp))
      refine set_exc0 (x := e) (t := t4) (c2 := .none) (s := ⟨h4, gg, dd, t2, oo⟩) SF F4 X0 N4 (by simp) hsa ho ht hh rfl (.tail et.symm (.tail eu.symm (.tail es.symm (.head fun _ z => nomatch z)))) (by show 1 ≤ 1000; omega) ?_
      intro dx h5 F5 N5 l5
      refine wpAt_of_wpAny (wpAny_execs_nil ?_)
      have nd := N5 _ List.mem_cons_self
      have ne := N5 (e, excObj C t4 (some dx) .none) (by simp)
      refine go dx t4 _ h5 _ _ F5.keep ne.1 nd.1 rfl nd.2.2 ?_
      exact (Nat.ne_of_lt (l5 (e, excObj C t4 none .none) (by simp))).symm
end
end PxV
/-! PxW: C(number) as a value -/
namespace PxV
open PySem PySem.Spec PyProof.Rows PySem.W PySem.Calls
/-- what the text and the written part say of such a class -/
structure NumC (P : Program) (K : Frag) (C : Addr) (B initId newId : String) (bmB : List Value) : Prop where
  ex : ∃ (f cda cc : Addr) (oc ccl cl dV kV doc pm ct : Value) (od cdd cld an : Option Addr) (osl ccs csl : Array (Option Value)) (name q : Str) (params : Arguments) (body : List Stmt) (scope : Scope) (ar : Arg) (vs : Array Value) (file : Str) (tf : Tok) (js : List Expr) (p0 p1 p2 p3 p4 p5 p6 p7 p8 pj : Pos) (pl : Env → Sem Bool),
    findIn K (.ref C) "__init__" = some (some (.ref f)) ∧ typeIn K (.ref f) = some (.type "function") ∧ K.lookup f = some ⟨oc, od, .func (fnX name q params body scope [("__class__", cc)] dV kV doc pm an (.ref cda) ct), osl⟩ ∧ codeIn K (.ref cda) q = true ∧ (params.posonlyargs ++ params.args).head? = some ar ∧ ar.arg = "self" ∧
    (∀ (s : Shared) (a b : Value), BindsTo s (fnX name q params body scope [("__class__", cc)] dV kV doc pm an (.ref cda) ct) ⟨[a, b], []⟩ [("self", a), ("number", b)]) ∧
    body = [.Expr (.Call (.Attribute (.Call (.Name "super" p0) [] [] p1) "__init__" p2) [.JoinedStr js pj] [] p3) p4, .Assign [.Attribute (.Name "self" p5) "number" p6] (.Name "number" p7) p8] ∧ Px.Joined (.JoinedStr js pj) ∧
    (∀ env : Env, eval (.Call (.Attribute (.Call (.Name "super" p0) [] [] p1) "__init__" p2) [.JoinedStr js pj] [] p3) env = (do
      let ov ← attributeBase (.Call (.Name "super" p0) [] [] p1) "__init__" env (eval (.Call (.Name "super" p0) [] [] p1) env)
      standAt p2.atName
      let (fx, fst) ← holding [ov] (getMethod ov "__init__" (pl env))
      callWith p3 fx fst (backTo p3 (starEach [.JoinedStr js pj] env)) [])) ∧
    (∀ env : Env, swapsWith (.Call (.Attribute (.Call (.Name "super" p0) [] [] p1) "__init__" p2) [.JoinedStr js pj] [] p3) none p4.line env = pure false) ∧ (∀ env : Env, swapsWith (.Name "number" p7) (some (.Attribute (.Name "self" p5) "number" p6)) p8.line env = pure false) ∧
    K.lookup cda = some ⟨ccl, cdd, .fields vs, ccs⟩ ∧ vs[2]? = some (.str file tf) ∧ ((P.main.file : Str) == file) = true ∧ K.lookup cc = some ⟨cl, cld, .cell (some (.ref C)), csl⟩ ∧
    scope.names.lookup ("super" : Str) = some .globalImplicit ∧ scope.names.lookup ("__class__" : Str) = some .free ∧ scope.names.lookup ("self" : Str) = some .local ∧ scope.names.lookup ("number" : Str) = some .local ∧ scope.kind = .function ∧ scope.isCoroutine = false ∧ scope.isGenerator = false ∧ (∀ x ∈ scope.names, x.2 ≠ .cell)
  hsub : mroIn K C (.ref C) = some true
  htop : (P.main.scope.names.lookup ("super" : Str)).isSome = false
  KF : KxsFacts B initId
  FB : ExcBaseFacts B newId initId bmB
  hq : excInitIn K C bmB newId = true
  hB : subIn K (.ref C) (.type B) = some true
  hsi : ks_superIn K C C "__init__" = some (some (.builtin initId))
  hth : nsIn K cStatics "thirdparty.any" = some none
  SF : StoreFacts B bmB "object.__setattr__" "object"
  hsa : findIn K (.ref C) "__setattr__" = some (some (.builtin "object.__setattr__"))
  ho : excOver K C bmB = true
  ht : takerIn K C "number" = some none
  hh : hasDictIn K C = true
  kC : keepIn K (.ref C) = true
end PxV
namespace Px
open PySem PySem.Spec PyProof.Rows L2
section
variable {X : Cx} {ct : Gx} {W : WX}
theorem pe_mkN {C : Addr} {B initId newId : String} {bmB : List Value} {x : Str} {e : Expr} {ta : TE} {p pos : Pos} {k : Nat} (Z : PxV.NumC X.prog X.K C B initId newId bmB) (hr : Room (k + 1) X.A) (sup : X.mg "super" = none) (gC : X.mg x = some (.ref C)) (hg : Gl X x) (he : PE X e ta)
    (hs : starEach [e] X.env = (false, eval e X.env) :: starEach [] X.env := by rfl) (hdb : (x == ("__debug__" : Str)) = false := by decide) :
    PE X (.Call (.Name x p) [e] [] pos) (fun σ H Q => ta σ H fun v H1 => ∃ i : Int, v = .int i ∧ i.natAbs.log2 < 1920 ∧ ∀ a dx, H1 a = none → H1 dx = none → dx ≠ a → Q (.ref a) (upd (upd H1 dx (numO dx i)) a (exo a C (some dx)))) := by
  refine ⟨fun pins s σ H Q I h => ?_⟩
  refine wpAny_Call_Name_kw (ld_glob I hg gC ?_ hdb)
  refine PySem.W.callWith_K (h₀ := X.base) I.ok.mod.kin Z.kC ?_ hs (by rfl)
  rw [hs]
  show wpAny _ _ (spliced ((false, eval e X.env) :: backTo pos (starEach [] X.env))) _ _ s
  refine Calls.spliced_cons (thn (he.run pins s σ H _ I h) fun u s1 ⟨v, H1, I1, r1, q1⟩ => ?_)
  refine Calls.spliced_nil ⟨I1.kIn, ?_⟩
  show wpAny _ _ (call (.ref C) [u]) _ _ _
  obtain ⟨i, rfl, hi, q⟩ := q1
  obtain ⟨tk, rfl⟩ := (show ∃ t, u = Value.int i t from r1)
  obtain ⟨nm, N, qn, bs, bm, hdct, sn, sub, ab, col, dd, k0, k1, k2, k3, k5, hC, hT⟩ := PySem.W.excInit_of I1.kIn Z.hq
  obtain ⟨f, cda, cc, oc, ccl, cl, dV, kV, doc, pm, ct', od, cdd, cld, an, osl, ccs, csl, name, qq, params, body, scope, ar, vs, file, tf, js, p0, p1, p2, p3, p4, p5, p6, p7, p8, pj, pl, z1, z2, z3, z4, z5, z6, z7, z8, z9, z10, z11, z12, z13, z14, z15, z16, z17, z18, z19, z20, z21, z22, z23, z24⟩ := Z.ex
  obtain ⟨cd, hcl, _⟩ := PySem.W.any_some Z.hh
  obtain ⟨mb, b1, b2⟩ := I1.ok.mod.blt
  have bk := I1.bk
  obtain ⟨hp, g, dr, t, os⟩ := s1
  have hn : H1 (hp.objs.size + 1) = none := I1.hok.fresh (Nat.le_succ _)
  have kk : ∀ b o, hp.get? b = some o → ((hp.push (PySem.W.kdv_tup [Value.int i tk])).push (PySem.HandSPX.excO C hp.objs.size)).get? b = some o := fun b o e => Heap.get?_push_of_some _ (Heap.get?_push_of_some _ e)
  have hget : ((hp.push (PySem.W.kdv_tup [Value.int i tk])).push (PySem.HandSPX.excO C hp.objs.size)).get? (hp.objs.size + 1) = some (PySem.HandSPX.excO C hp.objs.size) := by heap_get
  have he0 : hp.get? (hp.objs.size + 1) = none := by
    cases e : hp.get? (hp.objs.size + 1) with
    | none => rfl
    | some o => exact absurd (Heap.lt_size e) (Nat.not_lt.mpr (Nat.le_succ _))
  refine wpAny_call (PySem.HandSPX.call_own Z.FB hT hC (PySem.W.looks_findIn I1.kIn z1) (fun self => PySem.W.bind_fn I1.kIn self z2) (by show 1 ≤ sizeLine; rw [sizeLine_eq]; omega) ?_)
  refine PxV.init_run (h0 := hp) (mb := mb) (mg := X.mg) I1.kIn (I1.ok.mod.glob.keeps bk) (b1.keeps bk) b2 (I1.ok.mod.nolimit.keeps bk) sup kk (by rw [Heap.size_push, Heap.size_push]; omega) hget he0 (hr.make C _ []).depth z3 z4 z5 z6 (z7 _ _ _) z8 z9 z10 z11 z12 hi z13 z14 z15 z16 hcl Z.hsub z17 z18 z19 z20 z21 z22 z23 z24 Z.htop Z.KF Z.FB Z.hq Z.hB Z.hsi Z.hth Z.SF Z.hsa Z.ho Z.ht Z.hh ?_
  intro dx t1 od' h' tk1 tk2 keep ge gd lk hdx hne
  refine ⟨rfl, ?_⟩
  have nd : H1 dx = none := I1.hok.gone hdx
  obtain ⟨G, g1, g2⟩ := restrict h' fun b => decide (b ≠ hp.objs.size + 1)
  have ga : G.get? (hp.objs.size + 1) = none := g2 _ (by simp)
  have gk : ∀ b, b ≠ hp.objs.size + 1 → G.get? b = h'.get? b := fun b hb => g1 b (decide_eq_true hb)
  have I2 : L2.Inv X pins σ (upd H1 dx (numO dx i)) ⟨G, g, dr, t, os⟩ := I1.laidN (h' := G) (t' := t) (a := dx) (o := numO dx i) (fun b u e => by
      rw [gk b (fun z => by rw [z, he0] at e; cases e)]; exact keep b u e) hdx nd ⟨⟨od', tk2, (gk dx hne).trans gd, lk⟩, ⟨od', (gk dx hne).trans gd⟩, fun h1 h2 ⟨o, tt, a1, a2⟩ k => ⟨o, tt, k _ a1, a2⟩⟩
  have hn2 : upd H1 dx (numO dx i) (hp.objs.size + 1) = none := by rw [upd_ne (Ne.symm hne)]; exact hn
  have I3 : L2.Inv X pins σ (upd (upd H1 dx (numO dx i)) (hp.objs.size + 1) (exo (hp.objs.size + 1) C (some dx))) ⟨h', g, dr, tk1, os⟩ := I2.laidN (h' := h') (t' := tk1) (a := hp.objs.size + 1) (fun b u e => by
      by_cases hb : b = hp.objs.size + 1
      · rw [hb, ga] at e; cases e
      · rw [← gk b hb]; exact e) ga hn2 (exo_ok ge)
  exact ⟨.ref _, _, I3, rfl, q _ dx hn nd hne⟩
/-- C(number) -/
def mkND (nm : Str) : PyData → Option OR
  | .int i => if i.natAbs.log2 < 1920 then some (.val (exN nm i)) else none
  | _ => none
theorem se_mkN {C : Addr} {B initId newId : String} {bmB : List Value} {x : Str} {e : Expr} {f : FE} {p pos : Pos} {k : Nat} (Z : PxV.NumC X.prog X.K C B initId newId bmB) (nC : PySem.W.nsIn X.K mainGlobals x = some (some (.ref C))) (hr : Room (k + 1) X.A) (sup : X.mg "super" = none) (gC : X.mg x = some (.ref C)) (hg : Gl X x) (he : SE X ct W e f)
    (hs : starEach [e] X.env = (false, eval e X.env) :: starEach [] X.env := by rfl) (hdb : (x == ("__debug__" : Str)) = false := by decide) : SE X ct W (.Call (.Name x p) [e] [] pos) (u1 (mkND x) f) := by
  refine se_u1 (r := fun v H Q => ∃ i : Int, v = .int i ∧ i.natAbs.log2 < 1920 ∧ ∀ a dx, H a = none → H dx = none → dx ≠ a → Q (.ref a) (upd (upd H dx (numO dx i)) a (exo a C (some dx)))) (fun ta ha => pe_mkN Z hr sup gC hg ha hs hdb) he fun F H v d o Q dm b e gv => ?_
  unfold mkND at e
  split at e
  · rename_i i
    split at e
    · rename_i hi
      cases e
      cases b.int_
      refine ⟨i, rfl, hi, fun a dx ha hd hne => ?_⟩
      have x1 := PEx.frz (o := numO dx i) dm hd
      have x2 := PEx.frz (o := exo a C (some dx)) x1.dom (show upd H dx (numO dx i) a = none by rw [upd_ne (Ne.symm hne)]; exact ha)
      exact gv _ _ _ (x1.trans x2) (.exm (.inr rfl) (.inl (.inr rfl)) nC upd_same (by rw [upd_ne hne, upd_same]))
    · cases e
  · cases e
end
end Px
/-! PxX: what is asked of the written part for exceptions as values, told by one word for many classes -/
namespace Px
open PySem PySem.Spec PyProof.Rows L2
def exvB (K : PySem.W.Frag) (D : Addr) : Bool := (PySem.W.clsIn K D).isSome && (decide (PySem.W.findIn K (.ref D) "__getattribute__" = some (some (.builtin "BaseException.__getattribute__"))) && (decide (PySem.W.findIn K (.ref D) "__getattr__" = some none) && (decide (PySem.W.subIn K (.ref D) (.type "BaseException") = some true) &&
  (decide (PySem.W.findIn K (.ref D) "__class__" = some (some (.builtin "object.__class__"))) && (decide (PySem.W.specialIn K (.builtin "object.__class__") "__get__" = some (some (.builtin "getset_descriptor.__get__"))) && (decide (PySem.W.takesIn K (.builtin "object.__class__") = some true) && decide (PySem.W.mroIn K D (.type "object") = some true)))))))
theorem exvB_ok {K : PySem.W.Frag} {D : Addr} (h : exvB K D = true) : ExV K D := by
  unfold exvB at h
  simp only [Bool.and_eq_true, decide_eq_true_eq] at h
  obtain ⟨h1, h2, h3, h4, h5, h6, h7, h8⟩ := h
  exact ⟨h1, h2, h3, h4, h5, h6, h7, h8⟩
/-- of each of the named classes -/
def allOf (K : PySem.W.Frag) (ns : List Str) (q : Addr → Bool) : Bool := ns.all fun nm => match PySem.W.nsIn K mainGlobals nm with
  | some (some (.ref D)) => q D
  | _ => false
theorem allOf_get {K : PySem.W.Frag} {ns : List Str} {q : Addr → Bool} (h : allOf K ns q = true) {nm : Str} {D : Addr} (hm : nm ∈ ns) (hn : PySem.W.nsIn K mainGlobals nm = some (some (.ref D))) : q D = true := by
  have z := List.all_eq_true.mp h nm hm
  rw [hn] at z
  exact z
def kitAll (K : PySem.W.Frag) (cv : Value) (l : List (Str × Bool)) : Bool := l.all fun p => match PySem.W.nsIn K mainGlobals p.1 with
  | some (some (.ref D)) => decide (PySem.W.kitOne K (.ref D) cv = some p.2)
  | _ => false
theorem isa_ok {K : PySem.W.Frag} {cv : Value} {l : List (Str × Bool)} {ns : List Str} (hl : l.map (·.1) = ns) (h1 : allOf K ns (exvB K) = true) (h2 : kitAll K cv l = true) : ∀ nm b D, l.lookup nm = some b → PySem.W.nsIn K mainGlobals nm = some (some (.ref D)) → ExV K D ∧ PySem.W.kitOne K (.ref D) cv = some b := by
  intro nm b D h hn
  have hm := PySem.mem_of_lookup h
  refine ⟨exvB_ok (allOf_get h1 (hl ▸ List.mem_map_of_mem hm) hn), ?_⟩
  have z := List.all_eq_true.mp h2 (nm, b) hm
  dsimp only at z
  rw [hn] at z
  exact of_decide_eq_true z
def numB (K : PySem.W.Frag) (D : Addr) : Bool := xfB K D && decide (PySem.W.findIn K (.ref D) "number" = some none)
theorem num_ok {K : PySem.W.Frag} {ns : List Str} (h : allOf K ns (numB K) = true) : ∀ nm D, nm ∈ ns → PySem.W.nsIn K mainGlobals nm = some (some (.ref D)) → XfC K D ∧ PySem.W.findIn K (.ref D) "number" = some none := by
  intro nm D hm hn
  have z := allOf_get h hm hn
  unfold numB at z
  rw [Bool.and_eq_true] at z
  exact ⟨xfB_ok z.1, of_decide_eq_true z.2⟩
section
variable {X : Cx} {ct : Gx} {W : WX} {x y : Str} {p p2 pos : Pos} {e : Expr} {f : FE}
theorem se_isaC {C : Addr} (l : List (Str × Bool)) (ok : ∀ nm b D, l.lookup nm = some b → PySem.W.nsIn X.K mainGlobals nm = some (some (.ref D)) → ExV X.K D ∧ PySem.W.kitOne X.K (.ref D) (.ref C) = some b) (hx : x = "isinstance") (hg : Gl X x) (hm : X.mg x = none) (gy : Gl X y) (my : X.mg y = some (.ref C)) (he : SE X ct W e f)
    (dy : (y == ("__debug__" : Str)) = false := by decide) (hs : starEach [e, .Name y p2] X.env = (false, eval e X.env) :: starEach [.Name y p2] X.env := by rfl) (hpl : (backTo pos (starEach [.Name y p2] X.env)).any (·.1) = false := by rfl) :
    SE X ct W (.Call (.Name x p) [e, .Name y p2] [] pos) (u1 (isaD l) f) :=
  se_isa l ok (pe_glob gy my (show RelV (.ref C) (.ref C) from rfl) dy) (fun u h => h) hx hg hm he hs hpl
theorem se_isaT {T : String} (l : List (Str × Bool)) (ok : ∀ nm b D, l.lookup nm = some b → PySem.W.nsIn X.K mainGlobals nm = some (some (.ref D)) → ExV X.K D ∧ PySem.W.kitOne X.K (.ref D) (.type T) = some b) (hx : x = "isinstance") (hg : Gl X x) (hm : X.mg x = none) (gy : Gl X y) (my : X.mg y = none) (vy : bootBuiltins y = some (.type T)) (he : SE X ct W e f)
    (ny : y ≠ "__name__" := by decide) (dy : (y == ("__debug__" : Str)) = false := by decide) (hs : starEach [e, .Name y p2] X.env = (false, eval e X.env) :: starEach [.Name y p2] X.env := by rfl) (hpl : (backTo pos (starEach [.Name y p2] X.env)).any (·.1) = false := by rfl) :
    SE X ct W (.Call (.Name x p) [e, .Name y p2] [] pos) (u1 (isaD l) f) :=
  se_isa (c := .ty T) (cv := .type T) l ok (pe_bltn gy my vy rfl ny dy) (fun u h => h) hx hg hm he hs hpl
end
/-! ### a text many times -/
def mulOkB (a : Str) (n : Int) : Bool := !(decide (n < -(2 ^ 63 : Int)) || decide (n ≥ 2 ^ 63)) && ((decide (n < 1) || (n == 1 || a.length == 0)) || (decide (¬ ((a.length : Int) > (2 ^ 63 - 1) / n)) && !Builtin.Str.tooLong (a.length * n.toNat)))
theorem mulOkB_ok {a : Str} {n : Int} (h : mulOkB a n = true) : MulOk a n := by
  unfold mulOkB at h
  rw [Bool.and_eq_true, Bool.or_eq_true, Bool.and_eq_true] at h
  obtain ⟨h1, h2⟩ := h
  refine ⟨by simpa using h1, fun n1 n2 => ?_, fun n1 n2 => ?_⟩
  · rcases h2 with h2 | h2
    · rw [Bool.or_eq_true, n2] at h2
      rcases h2 with h2 | h2
      · exact absurd (of_decide_eq_true h2) n1
      · cases h2
    · exact of_decide_eq_true h2.1
  · rcases h2 with h2 | h2
    · rw [Bool.or_eq_true, n2] at h2
      rcases h2 with h2 | h2
      · exact absurd (of_decide_eq_true h2) n1
      · cases h2
    · simpa using h2.2
def mulSD : PyData → PyData → Option OR
  | .str a, .int n => if (mulOkB a n && PyData.strOk (Txt.mul a n)) = true then some (.val (.str (Txt.mul a n))) else none
  | _, _ => none
section
variable {X : Cx} {ct : Gx} {W : WX}
theorem op_mulS : OpR X (binaryOp .Mult) (fun x y H Q => ∃ a n, x = .str a ∧ y = .int n ∧ MulOk a n ∧ Q (.str (Txt.mul a n)) H) := by
  intro pins s σ H x y v u Q I rx ry h
  obtain ⟨a, n, rfl, rfl, ok, q⟩ := h
  obtain ⟨t, rfl⟩ := rx
  obtain ⟨t', rfl⟩ := ry
  exact PySem.SB.mul ok fun t' k => ⟨.str _, H, I.tok _, ⟨_, rfl⟩, q⟩
theorem se_mulS {a b : Expr} {f g : FE} {pos} (h1 : SE X ct W a f) (h2 : SE X ct W b g) : SE X ct W (.BinOp a .Mult b pos) (u2 mulSD f g) := by
  refine se_u2 (fun ta tb ha hb => pe_op op_mulS ha hb) h1 h2 fun F H x y d1 d2 o Q dm b1 b2 e gv => ?_
  unfold mulSD at e
  split at e
  · split at e
    · rename_i ok
      cases e
      cases b1.str_
      cases b2.int_
      rw [Bool.and_eq_true] at ok
      exact ⟨_, _, rfl, rfl, mulOkB_ok ok.1, gv.here dm (.str _ ok.2)⟩
    · cases e
  · cases e
end
theorem bt_ValueError : bootBuiltins "ValueError" = some (.type "ValueError") := by first | rfl | kernel_rfl
theorem bt_LookupError : bootBuiltins "LookupError" = some (.type "LookupError") := by first | rfl | kernel_rfl
end Px
namespace G01
open PySem PySem.Spec PyProof.Rows L2 Px
def topS (i : Nat) : Stmt := PySem.Challenge.pw_lorestead_k01_refusals_stand_alone.main.body.getD i (.Pass ⟨0, 0, 0, 0⟩)
abbrev s_l_pool : Stmt := topS 25
abbrev s_l_take : Stmt := topS 26
abbrev s_l_marks : Stmt := topS 28
abbrev s_l_made : Stmt := topS 27
abbrev s_law : Stmt := topS 29
def mades : List Str := ["NoNotions", "NoTerm", "NoField", "NoAtom", "NoRow", "NoRenaming", "NoWorld", "NoWay", "NoRule", "NoSituation", "NoTheory", "NoWalk", "NoMost", "TooWide", "Unlike", "NoDeed", "NoText", "NoLine", "NoGround", "Broken", "Breaks", "NoNumber"]
def numbered : List Str := ["NoGround", "Broken", "Breaks", "NoNumber"]
def il_Breaks : List (Str × Bool) := [("NoNotions", false), ("NoTerm", false), ("NoField", false), ("NoAtom", false), ("NoRow", false), ("NoRenaming", false), ("NoWorld", false), ("NoWay", false), ("NoRule", false), ("NoSituation", false), ("NoTheory", false), ("NoWalk", false), ("NoMost", false), ("TooWide", false), ("Unlike", false), ("NoDeed", false), ("NoText", false), ("NoLine", false), ("NoGround", false), ("Broken", false), ("Breaks", true), ("NoNumber", false)]
def il_Broken : List (Str × Bool) := [("NoNotions", false), ("NoTerm", false), ("NoField", false), ("NoAtom", false), ("NoRow", false), ("NoRenaming", false), ("NoWorld", false), ("NoWay", false), ("NoRule", false), ("NoSituation", false), ("NoTheory", false), ("NoWalk", false), ("NoMost", false), ("TooWide", false), ("Unlike", false), ("NoDeed", false), ("NoText", false), ("NoLine", false), ("NoGround", false), ("Broken", true), ("Breaks", false), ("NoNumber", false)]
def il_LookupError : List (Str × Bool) := [("NoNotions", false), ("NoTerm", false), ("NoField", false), ("NoAtom", false), ("NoRow", false), ("NoRenaming", false), ("NoWorld", false), ("NoWay", false), ("NoRule", false), ("NoSituation", false), ("NoTheory", false), ("NoWalk", false), ("NoMost", false), ("TooWide", false), ("Unlike", false), ("NoDeed", false), ("NoText", false), ("NoLine", false), ("NoGround", false), ("Broken", false), ("Breaks", false), ("NoNumber", true)]
def il_LoreError : List (Str × Bool) := [("NoNotions", true), ("NoTerm", true), ("NoField", true), ("NoAtom", true), ("NoRow", true), ("NoRenaming", true), ("NoWorld", true), ("NoWay", true), ("NoRule", true), ("NoSituation", true), ("NoTheory", true), ("NoWalk", true), ("NoMost", true), ("TooWide", true), ("Unlike", true), ("NoDeed", true), ("NoText", true), ("NoLine", true), ("NoGround", true), ("Broken", true), ("Breaks", true), ("NoNumber", false)]
def il_NoAtom : List (Str × Bool) := [("NoNotions", false), ("NoTerm", false), ("NoField", false), ("NoAtom", true), ("NoRow", false), ("NoRenaming", false), ("NoWorld", false), ("NoWay", false), ("NoRule", false), ("NoSituation", false), ("NoTheory", false), ("NoWalk", false), ("NoMost", false), ("TooWide", false), ("Unlike", false), ("NoDeed", false), ("NoText", false), ("NoLine", false), ("NoGround", false), ("Broken", false), ("Breaks", false), ("NoNumber", false)]
def il_NoDeed : List (Str × Bool) := [("NoNotions", false), ("NoTerm", false), ("NoField", false), ("NoAtom", false), ("NoRow", false), ("NoRenaming", false), ("NoWorld", false), ("NoWay", false), ("NoRule", false), ("NoSituation", false), ("NoTheory", false), ("NoWalk", false), ("NoMost", false), ("TooWide", false), ("Unlike", false), ("NoDeed", true), ("NoText", false), ("NoLine", false), ("NoGround", false), ("Broken", false), ("Breaks", false), ("NoNumber", false)]
def il_NoField : List (Str × Bool) := [("NoNotions", false), ("NoTerm", false), ("NoField", true), ("NoAtom", false), ("NoRow", false), ("NoRenaming", false), ("NoWorld", false), ("NoWay", false), ("NoRule", false), ("NoSituation", false), ("NoTheory", false), ("NoWalk", false), ("NoMost", false), ("TooWide", false), ("Unlike", false), ("NoDeed", false), ("NoText", false), ("NoLine", false), ("NoGround", false), ("Broken", false), ("Breaks", false), ("NoNumber", false)]
def il_NoGround : List (Str × Bool) := [("NoNotions", false), ("NoTerm", false), ("NoField", false), ("NoAtom", false), ("NoRow", false), ("NoRenaming", false), ("NoWorld", false), ("NoWay", false), ("NoRule", false), ("NoSituation", false), ("NoTheory", false), ("NoWalk", false), ("NoMost", false), ("TooWide", false), ("Unlike", false), ("NoDeed", false), ("NoText", false), ("NoLine", false), ("NoGround", true), ("Broken", false), ("Breaks", false), ("NoNumber", false)]
def il_NoLine : List (Str × Bool) := [("NoNotions", false), ("NoTerm", false), ("NoField", false), ("NoAtom", false), ("NoRow", false), ("NoRenaming", false), ("NoWorld", false), ("NoWay", false), ("NoRule", false), ("NoSituation", false), ("NoTheory", false), ("NoWalk", false), ("NoMost", false), ("TooWide", false), ("Unlike", false), ("NoDeed", false), ("NoText", false), ("NoLine", true), ("NoGround", false), ("Broken", false), ("Breaks", false), ("NoNumber", false)]
def il_NoMost : List (Str × Bool) := [("NoNotions", false), ("NoTerm", false), ("NoField", false), ("NoAtom", false), ("NoRow", false), ("NoRenaming", false), ("NoWorld", false), ("NoWay", false), ("NoRule", false), ("NoSituation", false), ("NoTheory", false), ("NoWalk", false), ("NoMost", true), ("TooWide", false), ("Unlike", false), ("NoDeed", false), ("NoText", false), ("NoLine", false), ("NoGround", false), ("Broken", false), ("Breaks", false), ("NoNumber", false)]
def il_NoNotions : List (Str × Bool) := [("NoNotions", true), ("NoTerm", false), ("NoField", false), ("NoAtom", false), ("NoRow", false), ("NoRenaming", false), ("NoWorld", false), ("NoWay", false), ("NoRule", false), ("NoSituation", false), ("NoTheory", false), ("NoWalk", false), ("NoMost", false), ("TooWide", false), ("Unlike", false), ("NoDeed", false), ("NoText", false), ("NoLine", false), ("NoGround", false), ("Broken", false), ("Breaks", false), ("NoNumber", false)]
def il_NoNumber : List (Str × Bool) := [("NoNotions", false), ("NoTerm", false), ("NoField", false), ("NoAtom", false), ("NoRow", false), ("NoRenaming", false), ("NoWorld", false), ("NoWay", false), ("NoRule", false), ("NoSituation", false), ("NoTheory", false), ("NoWalk", false), ("NoMost", false), ("TooWide", false), ("Unlike", false), ("NoDeed", false), ("NoText", false), ("NoLine", false), ("NoGround", false), ("Broken", false), ("Breaks", false), ("NoNumber", true)]
def il_NoRenaming : List (Str × Bool) := [("NoNotions", false), ("NoTerm", false), ("NoField", false), ("NoAtom", false), ("NoRow", false), ("NoRenaming", true), ("NoWorld", false), ("NoWay", false), ("NoRule", false), ("NoSituation", false), ("NoTheory", false), ("NoWalk", false), ("NoMost", false), ("TooWide", false), ("Unlike", false), ("NoDeed", false), ("NoText", false), ("NoLine", false), ("NoGround", false), ("Broken", false), ("Breaks", false), ("NoNumber", false)]
def il_NoRow : List (Str × Bool) := [("NoNotions", false), ("NoTerm", false), ("NoField", false), ("NoAtom", false), ("NoRow", true), ("NoRenaming", false), ("NoWorld", false), ("NoWay", false), ("NoRule", false), ("NoSituation", false), ("NoTheory", false), ("NoWalk", false), ("NoMost", false), ("TooWide", false), ("Unlike", false), ("NoDeed", false), ("NoText", false), ("NoLine", false), ("NoGround", false), ("Broken", false), ("Breaks", false), ("NoNumber", false)]
def il_NoRule : List (Str × Bool) := [("NoNotions", false), ("NoTerm", false), ("NoField", false), ("NoAtom", false), ("NoRow", false), ("NoRenaming", false), ("NoWorld", false), ("NoWay", false), ("NoRule", true), ("NoSituation", false), ("NoTheory", false), ("NoWalk", false), ("NoMost", false), ("TooWide", false), ("Unlike", false), ("NoDeed", false), ("NoText", false), ("NoLine", false), ("NoGround", false), ("Broken", false), ("Breaks", false), ("NoNumber", false)]
def il_NoSituation : List (Str × Bool) := [("NoNotions", false), ("NoTerm", false), ("NoField", false), ("NoAtom", false), ("NoRow", false), ("NoRenaming", false), ("NoWorld", false), ("NoWay", false), ("NoRule", false), ("NoSituation", true), ("NoTheory", false), ("NoWalk", false), ("NoMost", false), ("TooWide", false), ("Unlike", false), ("NoDeed", false), ("NoText", false), ("NoLine", false), ("NoGround", false), ("Broken", false), ("Breaks", false), ("NoNumber", false)]
def il_NoTerm : List (Str × Bool) := [("NoNotions", false), ("NoTerm", true), ("NoField", false), ("NoAtom", false), ("NoRow", false), ("NoRenaming", false), ("NoWorld", false), ("NoWay", false), ("NoRule", false), ("NoSituation", false), ("NoTheory", false), ("NoWalk", false), ("NoMost", false), ("TooWide", false), ("Unlike", false), ("NoDeed", false), ("NoText", false), ("NoLine", false), ("NoGround", false), ("Broken", false), ("Breaks", false), ("NoNumber", false)]
def il_NoText : List (Str × Bool) := [("NoNotions", false), ("NoTerm", false), ("NoField", false), ("NoAtom", false), ("NoRow", false), ("NoRenaming", false), ("NoWorld", false), ("NoWay", false), ("NoRule", false), ("NoSituation", false), ("NoTheory", false), ("NoWalk", false), ("NoMost", false), ("TooWide", false), ("Unlike", false), ("NoDeed", false), ("NoText", true), ("NoLine", false), ("NoGround", false), ("Broken", false), ("Breaks", false), ("NoNumber", false)]
def il_NoTheory : List (Str × Bool) := [("NoNotions", false), ("NoTerm", false), ("NoField", false), ("NoAtom", false), ("NoRow", false), ("NoRenaming", false), ("NoWorld", false), ("NoWay", false), ("NoRule", false), ("NoSituation", false), ("NoTheory", true), ("NoWalk", false), ("NoMost", false), ("TooWide", false), ("Unlike", false), ("NoDeed", false), ("NoText", false), ("NoLine", false), ("NoGround", false), ("Broken", false), ("Breaks", false), ("NoNumber", false)]
def il_NoWalk : List (Str × Bool) := [("NoNotions", false), ("NoTerm", false), ("NoField", false), ("NoAtom", false), ("NoRow", false), ("NoRenaming", false), ("NoWorld", false), ("NoWay", false), ("NoRule", false), ("NoSituation", false), ("NoTheory", false), ("NoWalk", true), ("NoMost", false), ("TooWide", false), ("Unlike", false), ("NoDeed", false), ("NoText", false), ("NoLine", false), ("NoGround", false), ("Broken", false), ("Breaks", false), ("NoNumber", false)]
def il_NoWay : List (Str × Bool) := [("NoNotions", false), ("NoTerm", false), ("NoField", false), ("NoAtom", false), ("NoRow", false), ("NoRenaming", false), ("NoWorld", false), ("NoWay", true), ("NoRule", false), ("NoSituation", false), ("NoTheory", false), ("NoWalk", false), ("NoMost", false), ("TooWide", false), ("Unlike", false), ("NoDeed", false), ("NoText", false), ("NoLine", false), ("NoGround", false), ("Broken", false), ("Breaks", false), ("NoNumber", false)]
def il_NoWorld : List (Str × Bool) := [("NoNotions", false), ("NoTerm", false), ("NoField", false), ("NoAtom", false), ("NoRow", false), ("NoRenaming", false), ("NoWorld", true), ("NoWay", false), ("NoRule", false), ("NoSituation", false), ("NoTheory", false), ("NoWalk", false), ("NoMost", false), ("TooWide", false), ("Unlike", false), ("NoDeed", false), ("NoText", false), ("NoLine", false), ("NoGround", false), ("Broken", false), ("Breaks", false), ("NoNumber", false)]
def il_TooWide : List (Str × Bool) := [("NoNotions", false), ("NoTerm", false), ("NoField", false), ("NoAtom", false), ("NoRow", false), ("NoRenaming", false), ("NoWorld", false), ("NoWay", false), ("NoRule", false), ("NoSituation", false), ("NoTheory", false), ("NoWalk", false), ("NoMost", false), ("TooWide", true), ("Unlike", false), ("NoDeed", false), ("NoText", false), ("NoLine", false), ("NoGround", false), ("Broken", false), ("Breaks", false), ("NoNumber", false)]
def il_Unlike : List (Str × Bool) := [("NoNotions", false), ("NoTerm", false), ("NoField", false), ("NoAtom", false), ("NoRow", false), ("NoRenaming", false), ("NoWorld", false), ("NoWay", false), ("NoRule", false), ("NoSituation", false), ("NoTheory", false), ("NoWalk", false), ("NoMost", false), ("TooWide", false), ("Unlike", true), ("NoDeed", false), ("NoText", false), ("NoLine", false), ("NoGround", false), ("Broken", false), ("Breaks", false), ("NoNumber", false)]
def il_ValueError : List (Str × Bool) := [("NoNotions", true), ("NoTerm", true), ("NoField", true), ("NoAtom", true), ("NoRow", true), ("NoRenaming", true), ("NoWorld", true), ("NoWay", true), ("NoRule", true), ("NoSituation", true), ("NoTheory", true), ("NoWalk", true), ("NoMost", true), ("TooWide", true), ("Unlike", true), ("NoDeed", true), ("NoText", true), ("NoLine", true), ("NoGround", true), ("Broken", true), ("Breaks", true), ("NoNumber", false)]
structure Txt (P : Program) (K : PySem.W.Frag) (mg : Str → Option Value) (ct : Gx) where
  a_l_pool : Addr
  fd_l_pool : FuncData
  F_l_pool : Fun K "_law_pool" "_law_pool" s_l_pool a_l_pool fd_l_pool
  m_l_pool : mg "_law_pool" = some (.ref a_l_pool)
  b_l_pool : Binds K fd_l_pool ["script", "k"] []
  a_l_take : Addr
  fd_l_take : FuncData
  F_l_take : Fun K "_law_take" "_law_take" s_l_take a_l_take fd_l_take
  m_l_take : mg "_law_take" = some (.ref a_l_take)
  b_l_take : Binds K fd_l_take ["pool", "many"] []
  a_l_marks : Addr
  fd_l_marks : FuncData
  F_l_marks : Fun K "_law_marks" "_law_marks" s_l_marks a_l_marks fd_l_marks
  m_l_marks : mg "_law_marks" = some (.ref a_l_marks)
  b_l_marks : Binds K fd_l_marks ["one"] []
  a_l_made : Addr
  fd_l_made : FuncData
  F_l_made : Fun K "_law_made" "_law_made" s_l_made a_l_made fd_l_made
  m_l_made : mg "_law_made" = some (.ref a_l_made)
  b_l_made : Binds K fd_l_made ["text", "at"] []
  a_law : Addr
  fd_law : FuncData
  F_law : Fun K "law" "law" s_law a_law fd_law
  m_law : mg "law" = some (.ref a_law)
  b_law : Binds K fd_law ["script"] []
  n_LookupError : mg "LookupError" = none
  n_ValueError : mg "ValueError" = none
  n_isinstance : mg "isinstance" = none
  n_len : mg "len" = none
  n_max : mg "max" = none
  n_min : mg "min" = none
  n_range : mg "range" = none
  n_super : mg "super" = none
  c_Breaks : Addr
  g_Breaks : mg "Breaks" = some (.ref c_Breaks)
  nC_Breaks : PySem.W.nsIn K mainGlobals "Breaks" = some (some (.ref c_Breaks))
  Z_Breaks : PxV.NumC P K c_Breaks "ValueError" "ValueError.__init__" "ValueError.__new__" [.type "ValueError", .type "Exception", .type "BaseException", .type "object"]
  c_Broken : Addr
  g_Broken : mg "Broken" = some (.ref c_Broken)
  nC_Broken : PySem.W.nsIn K mainGlobals "Broken" = some (some (.ref c_Broken))
  Z_Broken : PxV.NumC P K c_Broken "ValueError" "ValueError.__init__" "ValueError.__new__" [.type "ValueError", .type "Exception", .type "BaseException", .type "object"]
  c_LoreError : Addr
  g_LoreError : mg "LoreError" = some (.ref c_LoreError)
  nC_LoreError : PySem.W.nsIn K mainGlobals "LoreError" = some (some (.ref c_LoreError))
  c_NoAtom : Addr
  g_NoAtom : mg "NoAtom" = some (.ref c_NoAtom)
  nC_NoAtom : PySem.W.nsIn K mainGlobals "NoAtom" = some (some (.ref c_NoAtom))
  x_NoAtom : PySem.W.excIn K c_NoAtom [.type "ValueError", .type "Exception", .type "BaseException", .type "object"] "ValueError.__new__" = true
  kC_NoAtom : PySem.W.keepIn K (.ref c_NoAtom) = true
  c_NoDeed : Addr
  g_NoDeed : mg "NoDeed" = some (.ref c_NoDeed)
  nC_NoDeed : PySem.W.nsIn K mainGlobals "NoDeed" = some (some (.ref c_NoDeed))
  x_NoDeed : PySem.W.excIn K c_NoDeed [.type "ValueError", .type "Exception", .type "BaseException", .type "object"] "ValueError.__new__" = true
  kC_NoDeed : PySem.W.keepIn K (.ref c_NoDeed) = true
  c_NoField : Addr
  g_NoField : mg "NoField" = some (.ref c_NoField)
  nC_NoField : PySem.W.nsIn K mainGlobals "NoField" = some (some (.ref c_NoField))
  x_NoField : PySem.W.excIn K c_NoField [.type "ValueError", .type "Exception", .type "BaseException", .type "object"] "ValueError.__new__" = true
  kC_NoField : PySem.W.keepIn K (.ref c_NoField) = true
  c_NoGround : Addr
  g_NoGround : mg "NoGround" = some (.ref c_NoGround)
  nC_NoGround : PySem.W.nsIn K mainGlobals "NoGround" = some (some (.ref c_NoGround))
  Z_NoGround : PxV.NumC P K c_NoGround "ValueError" "ValueError.__init__" "ValueError.__new__" [.type "ValueError", .type "Exception", .type "BaseException", .type "object"]
  c_NoLine : Addr
  g_NoLine : mg "NoLine" = some (.ref c_NoLine)
  nC_NoLine : PySem.W.nsIn K mainGlobals "NoLine" = some (some (.ref c_NoLine))
  x_NoLine : PySem.W.excIn K c_NoLine [.type "ValueError", .type "Exception", .type "BaseException", .type "object"] "ValueError.__new__" = true
  kC_NoLine : PySem.W.keepIn K (.ref c_NoLine) = true
  c_NoMost : Addr
  g_NoMost : mg "NoMost" = some (.ref c_NoMost)
  nC_NoMost : PySem.W.nsIn K mainGlobals "NoMost" = some (some (.ref c_NoMost))
  x_NoMost : PySem.W.excIn K c_NoMost [.type "ValueError", .type "Exception", .type "BaseException", .type "object"] "ValueError.__new__" = true
  kC_NoMost : PySem.W.keepIn K (.ref c_NoMost) = true
  c_NoNotions : Addr
  g_NoNotions : mg "NoNotions" = some (.ref c_NoNotions)
  nC_NoNotions : PySem.W.nsIn K mainGlobals "NoNotions" = some (some (.ref c_NoNotions))
  x_NoNotions : PySem.W.excIn K c_NoNotions [.type "ValueError", .type "Exception", .type "BaseException", .type "object"] "ValueError.__new__" = true
  kC_NoNotions : PySem.W.keepIn K (.ref c_NoNotions) = true
  c_NoNumber : Addr
  g_NoNumber : mg "NoNumber" = some (.ref c_NoNumber)
  nC_NoNumber : PySem.W.nsIn K mainGlobals "NoNumber" = some (some (.ref c_NoNumber))
  Z_NoNumber : PxV.NumC P K c_NoNumber "LookupError" "LookupError.__init__" "LookupError.__new__" [.type "LookupError", .type "Exception", .type "BaseException", .type "object"]
  c_NoRenaming : Addr
  g_NoRenaming : mg "NoRenaming" = some (.ref c_NoRenaming)
  nC_NoRenaming : PySem.W.nsIn K mainGlobals "NoRenaming" = some (some (.ref c_NoRenaming))
  x_NoRenaming : PySem.W.excIn K c_NoRenaming [.type "ValueError", .type "Exception", .type "BaseException", .type "object"] "ValueError.__new__" = true
  kC_NoRenaming : PySem.W.keepIn K (.ref c_NoRenaming) = true
  c_NoRow : Addr
  g_NoRow : mg "NoRow" = some (.ref c_NoRow)
  nC_NoRow : PySem.W.nsIn K mainGlobals "NoRow" = some (some (.ref c_NoRow))
  x_NoRow : PySem.W.excIn K c_NoRow [.type "ValueError", .type "Exception", .type "BaseException", .type "object"] "ValueError.__new__" = true
  kC_NoRow : PySem.W.keepIn K (.ref c_NoRow) = true
  c_NoRule : Addr
  g_NoRule : mg "NoRule" = some (.ref c_NoRule)
  nC_NoRule : PySem.W.nsIn K mainGlobals "NoRule" = some (some (.ref c_NoRule))
  x_NoRule : PySem.W.excIn K c_NoRule [.type "ValueError", .type "Exception", .type "BaseException", .type "object"] "ValueError.__new__" = true
  kC_NoRule : PySem.W.keepIn K (.ref c_NoRule) = true
  c_NoSituation : Addr
  g_NoSituation : mg "NoSituation" = some (.ref c_NoSituation)
  nC_NoSituation : PySem.W.nsIn K mainGlobals "NoSituation" = some (some (.ref c_NoSituation))
  x_NoSituation : PySem.W.excIn K c_NoSituation [.type "ValueError", .type "Exception", .type "BaseException", .type "object"] "ValueError.__new__" = true
  kC_NoSituation : PySem.W.keepIn K (.ref c_NoSituation) = true
  c_NoTerm : Addr
  g_NoTerm : mg "NoTerm" = some (.ref c_NoTerm)
  nC_NoTerm : PySem.W.nsIn K mainGlobals "NoTerm" = some (some (.ref c_NoTerm))
  x_NoTerm : PySem.W.excIn K c_NoTerm [.type "ValueError", .type "Exception", .type "BaseException", .type "object"] "ValueError.__new__" = true
  kC_NoTerm : PySem.W.keepIn K (.ref c_NoTerm) = true
  c_NoText : Addr
  g_NoText : mg "NoText" = some (.ref c_NoText)
  nC_NoText : PySem.W.nsIn K mainGlobals "NoText" = some (some (.ref c_NoText))
  x_NoText : PySem.W.excIn K c_NoText [.type "ValueError", .type "Exception", .type "BaseException", .type "object"] "ValueError.__new__" = true
  kC_NoText : PySem.W.keepIn K (.ref c_NoText) = true
  c_NoTheory : Addr
  g_NoTheory : mg "NoTheory" = some (.ref c_NoTheory)
  nC_NoTheory : PySem.W.nsIn K mainGlobals "NoTheory" = some (some (.ref c_NoTheory))
  x_NoTheory : PySem.W.excIn K c_NoTheory [.type "ValueError", .type "Exception", .type "BaseException", .type "object"] "ValueError.__new__" = true
  kC_NoTheory : PySem.W.keepIn K (.ref c_NoTheory) = true
  c_NoWalk : Addr
  g_NoWalk : mg "NoWalk" = some (.ref c_NoWalk)
  nC_NoWalk : PySem.W.nsIn K mainGlobals "NoWalk" = some (some (.ref c_NoWalk))
  x_NoWalk : PySem.W.excIn K c_NoWalk [.type "ValueError", .type "Exception", .type "BaseException", .type "object"] "ValueError.__new__" = true
  kC_NoWalk : PySem.W.keepIn K (.ref c_NoWalk) = true
  c_NoWay : Addr
  g_NoWay : mg "NoWay" = some (.ref c_NoWay)
  nC_NoWay : PySem.W.nsIn K mainGlobals "NoWay" = some (some (.ref c_NoWay))
  x_NoWay : PySem.W.excIn K c_NoWay [.type "ValueError", .type "Exception", .type "BaseException", .type "object"] "ValueError.__new__" = true
  kC_NoWay : PySem.W.keepIn K (.ref c_NoWay) = true
  c_NoWorld : Addr
  g_NoWorld : mg "NoWorld" = some (.ref c_NoWorld)
  nC_NoWorld : PySem.W.nsIn K mainGlobals "NoWorld" = some (some (.ref c_NoWorld))
  x_NoWorld : PySem.W.excIn K c_NoWorld [.type "ValueError", .type "Exception", .type "BaseException", .type "object"] "ValueError.__new__" = true
  kC_NoWorld : PySem.W.keepIn K (.ref c_NoWorld) = true
  c_TooWide : Addr
  g_TooWide : mg "TooWide" = some (.ref c_TooWide)
  nC_TooWide : PySem.W.nsIn K mainGlobals "TooWide" = some (some (.ref c_TooWide))
  x_TooWide : PySem.W.excIn K c_TooWide [.type "ValueError", .type "Exception", .type "BaseException", .type "object"] "ValueError.__new__" = true
  kC_TooWide : PySem.W.keepIn K (.ref c_TooWide) = true
  c_Unlike : Addr
  g_Unlike : mg "Unlike" = some (.ref c_Unlike)
  nC_Unlike : PySem.W.nsIn K mainGlobals "Unlike" = some (some (.ref c_Unlike))
  x_Unlike : PySem.W.excIn K c_Unlike [.type "ValueError", .type "Exception", .type "BaseException", .type "object"] "ValueError.__new__" = true
  kC_Unlike : PySem.W.keepIn K (.ref c_Unlike) = true
  ev : allOf K mades (exvB K) = true
  i_Breaks : kitAll K (.ref c_Breaks) il_Breaks = true
  i_Broken : kitAll K (.ref c_Broken) il_Broken = true
  i_LookupError : kitAll K (.type "LookupError") il_LookupError = true
  i_LoreError : kitAll K (.ref c_LoreError) il_LoreError = true
  i_NoAtom : kitAll K (.ref c_NoAtom) il_NoAtom = true
  i_NoDeed : kitAll K (.ref c_NoDeed) il_NoDeed = true
  i_NoField : kitAll K (.ref c_NoField) il_NoField = true
  i_NoGround : kitAll K (.ref c_NoGround) il_NoGround = true
  i_NoLine : kitAll K (.ref c_NoLine) il_NoLine = true
  i_NoMost : kitAll K (.ref c_NoMost) il_NoMost = true
  i_NoNotions : kitAll K (.ref c_NoNotions) il_NoNotions = true
  i_NoNumber : kitAll K (.ref c_NoNumber) il_NoNumber = true
  i_NoRenaming : kitAll K (.ref c_NoRenaming) il_NoRenaming = true
  i_NoRow : kitAll K (.ref c_NoRow) il_NoRow = true
  i_NoRule : kitAll K (.ref c_NoRule) il_NoRule = true
  i_NoSituation : kitAll K (.ref c_NoSituation) il_NoSituation = true
  i_NoTerm : kitAll K (.ref c_NoTerm) il_NoTerm = true
  i_NoText : kitAll K (.ref c_NoText) il_NoText = true
  i_NoTheory : kitAll K (.ref c_NoTheory) il_NoTheory = true
  i_NoWalk : kitAll K (.ref c_NoWalk) il_NoWalk = true
  i_NoWay : kitAll K (.ref c_NoWay) il_NoWay = true
  i_NoWorld : kitAll K (.ref c_NoWorld) il_NoWorld = true
  i_TooWide : kitAll K (.ref c_TooWide) il_TooWide = true
  i_Unlike : kitAll K (.ref c_Unlike) il_Unlike = true
  i_ValueError : kitAll K (.type "ValueError") il_ValueError = true
  xf : allOf K numbered (numB K) = true
def clsBody : Stmt → Stmt
  | .ClassDef _ _ _ (st :: _) _ _ _ _ _ _ _ => st
  | s => s
abbrev si_NoGround : Stmt := clsBody (topS 20)
theorem z_NoGround {P : Program} {K : PySem.W.Frag} {c f cda cc : Addr} {oc ccl cl kV doc pm ct : Value} {od cdd cld an : Option Addr} {osl ccs csl : Array (Option Value)} {vs : Array Value} {file : Str} {tf : Tok}
    (i1 : PySem.W.findIn K (.ref c) "__init__" = some (some (.ref f))) (i2 : PySem.W.typeIn K (.ref f) = some (.type "function")) (i3 : K.lookup f = some ⟨oc, od, .func (PySem.W.fnX "__init__" "NoGround.__init__" (defArgs si_NoGround) (defBody si_NoGround) (defScope si_NoGround) [("__class__", cc)] .none kV doc pm an (.ref cda) ct), osl⟩) (i4 : PySem.W.codeIn K (.ref cda) "NoGround.__init__" = true)
    (i5 : K.lookup cda = some ⟨ccl, cdd, .fields vs, ccs⟩) (i6 : vs[2]? = some (.str file tf)) (i7 : ((P.main.file : Str) == file) = true) (i8 : K.lookup cc = some ⟨cl, cld, .cell (some (.ref c)), csl⟩) (i9 : PySem.W.mroIn K c (.ref c) = some true) (i10 : PySem.W.excInitIn K c [.type "ValueError", .type "Exception", .type "BaseException", .type "object"] "ValueError.__new__" = true) (i11 : PySem.W.subIn K (.ref c) (.type "ValueError") = some true)
    (i12 : PySem.W.ks_superIn K c c "__init__" = some (some (.builtin "ValueError.__init__"))) (i13 : PySem.W.nsIn K cStatics "thirdparty.any" = some none) (i14 : PySem.W.findIn K (.ref c) "__setattr__" = some (some (.builtin "object.__setattr__"))) (i15 : PySem.W.excOver K c [.type "ValueError", .type "Exception", .type "BaseException", .type "object"] = true) (i16 : PySem.W.takerIn K c "number" = some none) (i17 : PySem.W.hasDictIn K c = true) (i18 : PySem.W.keepIn K (.ref c) = true) (i19 : (P.main.scope.names.lookup ("super" : Str)).isSome = false) :
    PxV.NumC P K c "ValueError" "ValueError.__init__" "ValueError.__new__" [.type "ValueError", .type "Exception", .type "BaseException", .type "object"] where
  ex := ⟨f, cda, cc, oc, ccl, cl, .none, kV, doc, pm, ct, od, cdd, cld, an, osl, ccs, csl, _, _, _, _, _, _, vs, file, tf, _, _, _, _, _, _, _, _, _, _, _, _, i1, i2, i3, i4, rfl, rfl, fun _ _ _ => .of_eq rfl, rfl, joined3 rfl rfl rfl (by decide) (by decide), fun _ => rfl, fun _ => rfl, fun _ => rfl, i5, i6, i7, i8, rfl, rfl, rfl, rfl, rfl, rfl, rfl, by decide +kernel⟩
  hsub := i9
  htop := i19
  KF := PySem.W.kxs_ValueError
  FB := PySem.F.excBase_ValueError
  hq := i10
  hB := i11
  hsi := i12
  hth := i13
  SF := PySem.F.store_ValueError
  hsa := i14
  ho := i15
  ht := i16
  hh := i17
  kC := i18
abbrev si_Broken : Stmt := clsBody (topS 21)
theorem z_Broken {P : Program} {K : PySem.W.Frag} {c f cda cc : Addr} {oc ccl cl kV doc pm ct : Value} {od cdd cld an : Option Addr} {osl ccs csl : Array (Option Value)} {vs : Array Value} {file : Str} {tf : Tok}
    (i1 : PySem.W.findIn K (.ref c) "__init__" = some (some (.ref f))) (i2 : PySem.W.typeIn K (.ref f) = some (.type "function")) (i3 : K.lookup f = some ⟨oc, od, .func (PySem.W.fnX "__init__" "Broken.__init__" (defArgs si_Broken) (defBody si_Broken) (defScope si_Broken) [("__class__", cc)] .none kV doc pm an (.ref cda) ct), osl⟩) (i4 : PySem.W.codeIn K (.ref cda) "Broken.__init__" = true)
    (i5 : K.lookup cda = some ⟨ccl, cdd, .fields vs, ccs⟩) (i6 : vs[2]? = some (.str file tf)) (i7 : ((P.main.file : Str) == file) = true) (i8 : K.lookup cc = some ⟨cl, cld, .cell (some (.ref c)), csl⟩) (i9 : PySem.W.mroIn K c (.ref c) = some true) (i10 : PySem.W.excInitIn K c [.type "ValueError", .type "Exception", .type "BaseException", .type "object"] "ValueError.__new__" = true) (i11 : PySem.W.subIn K (.ref c) (.type "ValueError") = some true)
    (i12 : PySem.W.ks_superIn K c c "__init__" = some (some (.builtin "ValueError.__init__"))) (i13 : PySem.W.nsIn K cStatics "thirdparty.any" = some none) (i14 : PySem.W.findIn K (.ref c) "__setattr__" = some (some (.builtin "object.__setattr__"))) (i15 : PySem.W.excOver K c [.type "ValueError", .type "Exception", .type "BaseException", .type "object"] = true) (i16 : PySem.W.takerIn K c "number" = some none) (i17 : PySem.W.hasDictIn K c = true) (i18 : PySem.W.keepIn K (.ref c) = true) (i19 : (P.main.scope.names.lookup ("super" : Str)).isSome = false) :
    PxV.NumC P K c "ValueError" "ValueError.__init__" "ValueError.__new__" [.type "ValueError", .type "Exception", .type "BaseException", .type "object"] where
  ex := ⟨f, cda, cc, oc, ccl, cl, .none, kV, doc, pm, ct, od, cdd, cld, an, osl, ccs, csl, _, _, _, _, _, _, vs, file, tf, _, _, _, _, _, _, _, _, _, _, _, _, i1, i2, i3, i4, rfl, rfl, fun _ _ _ => .of_eq rfl, rfl, joined3 rfl rfl rfl (by decide) (by decide), fun _ => rfl, fun _ => rfl, fun _ => rfl, i5, i6, i7, i8, rfl, rfl, rfl, rfl, rfl, rfl, rfl, by decide +kernel⟩
  hsub := i9
  htop := i19
  KF := PySem.W.kxs_ValueError
  FB := PySem.F.excBase_ValueError
  hq := i10
  hB := i11
  hsi := i12
  hth := i13
  SF := PySem.F.store_ValueError
  hsa := i14
  ho := i15
  ht := i16
  hh := i17
  kC := i18
abbrev si_Breaks : Stmt := clsBody (topS 22)
theorem z_Breaks {P : Program} {K : PySem.W.Frag} {c f cda cc : Addr} {oc ccl cl kV doc pm ct : Value} {od cdd cld an : Option Addr} {osl ccs csl : Array (Option Value)} {vs : Array Value} {file : Str} {tf : Tok}
    (i1 : PySem.W.findIn K (.ref c) "__init__" = some (some (.ref f))) (i2 : PySem.W.typeIn K (.ref f) = some (.type "function")) (i3 : K.lookup f = some ⟨oc, od, .func (PySem.W.fnX "__init__" "Breaks.__init__" (defArgs si_Breaks) (defBody si_Breaks) (defScope si_Breaks) [("__class__", cc)] .none kV doc pm an (.ref cda) ct), osl⟩) (i4 : PySem.W.codeIn K (.ref cda) "Breaks.__init__" = true)
    (i5 : K.lookup cda = some ⟨ccl, cdd, .fields vs, ccs⟩) (i6 : vs[2]? = some (.str file tf)) (i7 : ((P.main.file : Str) == file) = true) (i8 : K.lookup cc = some ⟨cl, cld, .cell (some (.ref c)), csl⟩) (i9 : PySem.W.mroIn K c (.ref c) = some true) (i10 : PySem.W.excInitIn K c [.type "ValueError", .type "Exception", .type "BaseException", .type "object"] "ValueError.__new__" = true) (i11 : PySem.W.subIn K (.ref c) (.type "ValueError") = some true)
    (i12 : PySem.W.ks_superIn K c c "__init__" = some (some (.builtin "ValueError.__init__"))) (i13 : PySem.W.nsIn K cStatics "thirdparty.any" = some none) (i14 : PySem.W.findIn K (.ref c) "__setattr__" = some (some (.builtin "object.__setattr__"))) (i15 : PySem.W.excOver K c [.type "ValueError", .type "Exception", .type "BaseException", .type "object"] = true) (i16 : PySem.W.takerIn K c "number" = some none) (i17 : PySem.W.hasDictIn K c = true) (i18 : PySem.W.keepIn K (.ref c) = true) (i19 : (P.main.scope.names.lookup ("super" : Str)).isSome = false) :
    PxV.NumC P K c "ValueError" "ValueError.__init__" "ValueError.__new__" [.type "ValueError", .type "Exception", .type "BaseException", .type "object"] where
  ex := ⟨f, cda, cc, oc, ccl, cl, .none, kV, doc, pm, ct, od, cdd, cld, an, osl, ccs, csl, _, _, _, _, _, _, vs, file, tf, _, _, _, _, _, _, _, _, _, _, _, _, i1, i2, i3, i4, rfl, rfl, fun _ _ _ => .of_eq rfl, rfl, joined2 rfl rfl (by decide), fun _ => rfl, fun _ => rfl, fun _ => rfl, i5, i6, i7, i8, rfl, rfl, rfl, rfl, rfl, rfl, rfl, by decide +kernel⟩
  hsub := i9
  htop := i19
  KF := PySem.W.kxs_ValueError
  FB := PySem.F.excBase_ValueError
  hq := i10
  hB := i11
  hsi := i12
  hth := i13
  SF := PySem.F.store_ValueError
  hsa := i14
  ho := i15
  ht := i16
  hh := i17
  kC := i18
abbrev si_NoNumber : Stmt := clsBody (topS 23)
theorem z_NoNumber {P : Program} {K : PySem.W.Frag} {c f cda cc : Addr} {oc ccl cl kV doc pm ct : Value} {od cdd cld an : Option Addr} {osl ccs csl : Array (Option Value)} {vs : Array Value} {file : Str} {tf : Tok}
    (i1 : PySem.W.findIn K (.ref c) "__init__" = some (some (.ref f))) (i2 : PySem.W.typeIn K (.ref f) = some (.type "function")) (i3 : K.lookup f = some ⟨oc, od, .func (PySem.W.fnX "__init__" "NoNumber.__init__" (defArgs si_NoNumber) (defBody si_NoNumber) (defScope si_NoNumber) [("__class__", cc)] .none kV doc pm an (.ref cda) ct), osl⟩) (i4 : PySem.W.codeIn K (.ref cda) "NoNumber.__init__" = true)
    (i5 : K.lookup cda = some ⟨ccl, cdd, .fields vs, ccs⟩) (i6 : vs[2]? = some (.str file tf)) (i7 : ((P.main.file : Str) == file) = true) (i8 : K.lookup cc = some ⟨cl, cld, .cell (some (.ref c)), csl⟩) (i9 : PySem.W.mroIn K c (.ref c) = some true) (i10 : PySem.W.excInitIn K c [.type "LookupError", .type "Exception", .type "BaseException", .type "object"] "LookupError.__new__" = true) (i11 : PySem.W.subIn K (.ref c) (.type "LookupError") = some true)
    (i12 : PySem.W.ks_superIn K c c "__init__" = some (some (.builtin "LookupError.__init__"))) (i13 : PySem.W.nsIn K cStatics "thirdparty.any" = some none) (i14 : PySem.W.findIn K (.ref c) "__setattr__" = some (some (.builtin "object.__setattr__"))) (i15 : PySem.W.excOver K c [.type "LookupError", .type "Exception", .type "BaseException", .type "object"] = true) (i16 : PySem.W.takerIn K c "number" = some none) (i17 : PySem.W.hasDictIn K c = true) (i18 : PySem.W.keepIn K (.ref c) = true) (i19 : (P.main.scope.names.lookup ("super" : Str)).isSome = false) :
    PxV.NumC P K c "LookupError" "LookupError.__init__" "LookupError.__new__" [.type "LookupError", .type "Exception", .type "BaseException", .type "object"] where
  ex := ⟨f, cda, cc, oc, ccl, cl, .none, kV, doc, pm, ct, od, cdd, cld, an, osl, ccs, csl, _, _, _, _, _, _, vs, file, tf, _, _, _, _, _, _, _, _, _, _, _, _, i1, i2, i3, i4, rfl, rfl, fun _ _ _ => .of_eq rfl, rfl, joined2 rfl rfl (by decide), fun _ => rfl, fun _ => rfl, fun _ => rfl, i5, i6, i7, i8, rfl, rfl, rfl, rfl, rfl, rfl, rfl, by decide +kernel⟩
  hsub := i9
  htop := i19
  KF := PySem.W.kxs_LookupError
  FB := PySem.F.excBase_LookupError
  hq := i10
  hB := i11
  hsi := i12
  hth := i13
  SF := PySem.F.store_LookupError
  hsa := i14
  ho := i15
  ht := i16
  hh := i17
  kC := i18
section
variable {P : Program} {w : World} {K : PySem.W.Frag} {mg : Str → Option Value} {base : Heap} {ct : Gx}
abbrev n_l_pool : List Str := ["script", "k", "cell"]
theorem sc_l_pool : FnScope n_l_pool ["script", "k"] (defScope s_l_pool) := ⟨rfl, rfl, rfl, by decide +kernel, rfl, by decide +kernel, by decide +kernel⟩
def g_l_pool : FS := (sSeq (sSet false 2 (eD (.int 0)))
    (sSeq (sIf (t2 ltD (eName 1) (un lenD (aCons (eName 0) aNil)))
    (sSet false 2 (u2 ixD (eName 0) (eName 1)))
    sNext)
    (sRetW (eLst (aCons (un maxD (aCons (eD (.int 0)) (aCons (u2 subD (eName 2) (u2 powD (eD (.int 10)) (eD (.int 18)))) aNil))) (aCons (u2 modD (eName 2) (eD (.int 1000000007))) (aCons (u2 addD (u2 mulD (eD (.int 7919)) (eName 1)) (eD (.int 1))) aNil)))))))
abbrev d_l_pool : FD := runD n_l_pool.length g_l_pool
theorem ok_l_pool (T : Txt P K mg ct) : FnG P w K mg base (L2.CX P w) 1 T.a_l_pool T.fd_l_pool ["script", "k"] (spOf K ct (List.length (α := Str) ["script", "k"]) d_l_pool) := by
  refine def_ok (k := 0) (N := n_l_pool) (ps := ["script", "k"]) (g := g_l_pool) T.F_l_pool sc_l_pool fun cdv A outer s H E hr quiet => ?_
  exact (sss_cons (ss_set false 2 se_int sc_l_pool.nd)
    (sss_cons (ss_if (st_cmp rel_lt (se_name 1) (se_fun call_lenA rfl T.n_len bo_len (sa_cons (se_name 0) sa_nil)) (nomark _))
    (sss_one (ss_set false 2 (se_ix (se_name 0) (se_name 1)) sc_l_pool.nd))
    sss_nil)
    (sss_one (ss_retW (se_lst (sa_cons (se_fun (call_maxA rfl) rfl T.n_max bo_max (sa_cons se_int (sa_cons (se_sub (se_name 2) (se_pow se_int se_int)) sa_nil))) (sa_cons (se_mod (se_name 2) se_int) (sa_cons (se_add (se_mul se_int (se_name 1)) se_int) sa_nil))) (soft_cons (soft_cons (soft_cons soft_nil))))))))

abbrev n_l_take : List Str := ["pool", "many", "digit", "one", "two"]
theorem sc_l_take : FnScope n_l_take ["pool", "many"] (defScope s_l_take) := ⟨rfl, rfl, rfl, by decide +kernel, rfl, by decide +kernel, by decide +kernel⟩
def g_l_take : FS := (sSeq (sIf (t2 gtD (u2 ixD (eName 0) (eD (.int 0))) (eD (.int 0)))
    (sSeq (sSet false 2 (u2 modD (u2 ixD (eName 0) (eD (.int 0))) (eName 1)))
    (sSeq (sSetIx (u2 fdivD (u2 ixD (eName 0) (eD (.int 0))) (eName 1)) (eName 0) (eD (.int 0)))
    (sRet (eName 2))))
    sNext)
    (sSeq (sSetIx (u2 addD (u2 ixD (eName 0) (eD (.int 2))) (eD (.int 1))) (eName 0) (eD (.int 2)))
    (sSeq (sSet false 3 (u2 modD (u2 addD (u2 addD (u2 mulD (u2 ixD (eName 0) (eD (.int 1))) (eD (.int 48271))) (u2 mulD (eD (.int 104729)) (u2 ixD (eName 0) (eD (.int 2))))) (eD (.int 101))) (eD (.int 2147483629))))
    (sSeq (sSet false 3 (u2 modD (u2 powD (eName 3) (eD (.int 5))) (eD (.int 2147483587))))
    (sSeq (sSet false 4 (u2 modD (u2 powD (u2 addD (u2 addD (eName 3) (u2 mulD (u2 mulD (eD (.int 69621)) (u2 ixD (eName 0) (eD (.int 2)))) (u2 ixD (eName 0) (eD (.int 2))))) (u2 modD (u2 ixD (eName 0) (eD (.int 1))) (eD (.int 65537)))) (eD (.int 3))) (eD (.int 2147483563))))
    (sRet (u2 modD (u2 fdivD (u2 modD (u2 mulD (eName 4) (eD (.int 40692))) (eD (.int 2147483549))) (eD (.int 64))) (eName 1))))))))
abbrev d_l_take : FD := runD n_l_take.length g_l_take
theorem ok_l_take (T : Txt P K mg ct) : FnG P w K mg base (L2.CX P w) 1 T.a_l_take T.fd_l_take ["pool", "many"] (spOf K ct (List.length (α := Str) ["pool", "many"]) d_l_take) := by
  refine def_ok (k := 0) (N := n_l_take) (ps := ["pool", "many"]) (g := g_l_take) T.F_l_take sc_l_take fun cdv A outer s H E hr quiet => ?_
  exact (sss_cons (ss_if (st_cmp rel_gt (se_ix (se_name 0) se_int) se_int (nomark _))
    (sss_cons (ss_set false 2 (se_mod (se_ix (se_name 0) se_int) (se_name 1)) sc_l_take.nd)
    (sss_cons (ss_setIx (se_fdiv (se_ix (se_name 0) se_int) (se_name 1)) (se_name 0) se_int)
    (sss_one (ss_ret (se_name 2)))))
    sss_nil)
    (sss_cons (ss_setIx (se_add (se_ix (se_name 0) se_int) se_int) (se_name 0) se_int)
    (sss_cons (ss_set false 3 (se_mod (se_add (se_add (se_mul (se_ix (se_name 0) se_int) se_int) (se_mul se_int (se_ix (se_name 0) se_int))) se_int) se_int) sc_l_take.nd)
    (sss_cons (ss_set false 3 (se_mod (se_pow (se_name 3) se_int) se_int) sc_l_take.nd)
    (sss_cons (ss_set false 4 (se_mod (se_pow (se_add (se_add (se_name 3) (se_mul (se_mul se_int (se_ix (se_name 0) se_int)) (se_ix (se_name 0) se_int))) (se_mod (se_ix (se_name 0) se_int) se_int)) se_int) se_int) sc_l_take.nd)
    (sss_one (ss_ret (se_mod (se_fdiv (se_mod (se_mul (se_name 4) se_int) se_int) se_int) (se_name 1)))))))))

abbrev n_l_marks : List Str := ["one", "found"]
theorem sc_l_marks : FnScope n_l_marks ["one"] (defScope s_l_marks) := ⟨rfl, rfl, rfl, by decide +kernel, rfl, by decide +kernel, by decide +kernel⟩
def g_l_marks : FS := (sSeq (sSet false 1 (eLst (aCons (u1 (isaD il_NoNotions) (eName 0)) (aCons (u1 (isaD il_NoTerm) (eName 0)) (aCons (u1 (isaD il_NoField) (eName 0)) aNil)))))
    (sSeq (sSet false 1 (u2 addD (eName 1) (eLst (aCons (u1 (isaD il_NoAtom) (eName 0)) (aCons (u1 (isaD il_NoRow) (eName 0)) (aCons (u1 (isaD il_NoRenaming) (eName 0)) aNil))))))
    (sSeq (sSet false 1 (u2 addD (eName 1) (eLst (aCons (u1 (isaD il_NoWorld) (eName 0)) (aCons (u1 (isaD il_NoWay) (eName 0)) (aCons (u1 (isaD il_NoRule) (eName 0)) aNil))))))
    (sSeq (sSet false 1 (u2 addD (eName 1) (eLst (aCons (u1 (isaD il_NoSituation) (eName 0)) (aCons (u1 (isaD il_NoTheory) (eName 0)) (aCons (u1 (isaD il_NoWalk) (eName 0)) aNil))))))
    (sSeq (sSet false 1 (u2 addD (eName 1) (eLst (aCons (u1 (isaD il_NoMost) (eName 0)) (aCons (u1 (isaD il_TooWide) (eName 0)) (aCons (u1 (isaD il_Unlike) (eName 0)) aNil))))))
    (sSeq (sSet false 1 (u2 addD (eName 1) (eLst (aCons (u1 (isaD il_NoDeed) (eName 0)) (aCons (u1 (isaD il_NoText) (eName 0)) (aCons (u1 (isaD il_NoLine) (eName 0)) aNil))))))
    (sSeq (sSet false 1 (u2 addD (eName 1) (eLst (aCons (u1 (isaD il_NoGround) (eName 0)) (aCons (u1 (isaD il_Broken) (eName 0)) (aCons (u1 (isaD il_Breaks) (eName 0)) aNil))))))
    (sRet (u2 addD (eName 1) (eLst (aCons (u1 (isaD il_NoNumber) (eName 0)) aNil)))))))))))
abbrev d_l_marks : FD := runD n_l_marks.length g_l_marks
theorem ok_l_marks (T : Txt P K mg ct) : FnG P w K mg base (L2.CX P w) 1 T.a_l_marks T.fd_l_marks ["one"] (spOf K ct (List.length (α := Str) ["one"]) d_l_marks) := by
  refine def_ok (k := 0) (N := n_l_marks) (ps := ["one"]) (g := g_l_marks) T.F_l_marks sc_l_marks fun cdv A outer s H E hr quiet => ?_
  exact (sss_cons (ss_set false 1 (se_lst (sa_cons (se_isaC il_NoNotions (isa_ok (ns := mades) rfl T.ev T.i_NoNotions) rfl rfl T.n_isinstance rfl T.g_NoNotions (se_name 0)) (sa_cons (se_isaC il_NoTerm (isa_ok (ns := mades) rfl T.ev T.i_NoTerm) rfl rfl T.n_isinstance rfl T.g_NoTerm (se_name 0)) (sa_cons (se_isaC il_NoField (isa_ok (ns := mades) rfl T.ev T.i_NoField) rfl rfl T.n_isinstance rfl T.g_NoField (se_name 0)) sa_nil))) (soft_cons (soft_cons (soft_cons soft_nil)))) sc_l_marks.nd)
    (sss_cons (ss_set false 1 (se_add (se_name 1) (se_lst (sa_cons (se_isaC il_NoAtom (isa_ok (ns := mades) rfl T.ev T.i_NoAtom) rfl rfl T.n_isinstance rfl T.g_NoAtom (se_name 0)) (sa_cons (se_isaC il_NoRow (isa_ok (ns := mades) rfl T.ev T.i_NoRow) rfl rfl T.n_isinstance rfl T.g_NoRow (se_name 0)) (sa_cons (se_isaC il_NoRenaming (isa_ok (ns := mades) rfl T.ev T.i_NoRenaming) rfl rfl T.n_isinstance rfl T.g_NoRenaming (se_name 0)) sa_nil))) (soft_cons (soft_cons (soft_cons soft_nil))))) sc_l_marks.nd)
    (sss_cons (ss_set false 1 (se_add (se_name 1) (se_lst (sa_cons (se_isaC il_NoWorld (isa_ok (ns := mades) rfl T.ev T.i_NoWorld) rfl rfl T.n_isinstance rfl T.g_NoWorld (se_name 0)) (sa_cons (se_isaC il_NoWay (isa_ok (ns := mades) rfl T.ev T.i_NoWay) rfl rfl T.n_isinstance rfl T.g_NoWay (se_name 0)) (sa_cons (se_isaC il_NoRule (isa_ok (ns := mades) rfl T.ev T.i_NoRule) rfl rfl T.n_isinstance rfl T.g_NoRule (se_name 0)) sa_nil))) (soft_cons (soft_cons (soft_cons soft_nil))))) sc_l_marks.nd)
    (sss_cons (ss_set false 1 (se_add (se_name 1) (se_lst (sa_cons (se_isaC il_NoSituation (isa_ok (ns := mades) rfl T.ev T.i_NoSituation) rfl rfl T.n_isinstance rfl T.g_NoSituation (se_name 0)) (sa_cons (se_isaC il_NoTheory (isa_ok (ns := mades) rfl T.ev T.i_NoTheory) rfl rfl T.n_isinstance rfl T.g_NoTheory (se_name 0)) (sa_cons (se_isaC il_NoWalk (isa_ok (ns := mades) rfl T.ev T.i_NoWalk) rfl rfl T.n_isinstance rfl T.g_NoWalk (se_name 0)) sa_nil))) (soft_cons (soft_cons (soft_cons soft_nil))))) sc_l_marks.nd)
    (sss_cons (ss_set false 1 (se_add (se_name 1) (se_lst (sa_cons (se_isaC il_NoMost (isa_ok (ns := mades) rfl T.ev T.i_NoMost) rfl rfl T.n_isinstance rfl T.g_NoMost (se_name 0)) (sa_cons (se_isaC il_TooWide (isa_ok (ns := mades) rfl T.ev T.i_TooWide) rfl rfl T.n_isinstance rfl T.g_TooWide (se_name 0)) (sa_cons (se_isaC il_Unlike (isa_ok (ns := mades) rfl T.ev T.i_Unlike) rfl rfl T.n_isinstance rfl T.g_Unlike (se_name 0)) sa_nil))) (soft_cons (soft_cons (soft_cons soft_nil))))) sc_l_marks.nd)
    (sss_cons (ss_set false 1 (se_add (se_name 1) (se_lst (sa_cons (se_isaC il_NoDeed (isa_ok (ns := mades) rfl T.ev T.i_NoDeed) rfl rfl T.n_isinstance rfl T.g_NoDeed (se_name 0)) (sa_cons (se_isaC il_NoText (isa_ok (ns := mades) rfl T.ev T.i_NoText) rfl rfl T.n_isinstance rfl T.g_NoText (se_name 0)) (sa_cons (se_isaC il_NoLine (isa_ok (ns := mades) rfl T.ev T.i_NoLine) rfl rfl T.n_isinstance rfl T.g_NoLine (se_name 0)) sa_nil))) (soft_cons (soft_cons (soft_cons soft_nil))))) sc_l_marks.nd)
    (sss_cons (ss_set false 1 (se_add (se_name 1) (se_lst (sa_cons (se_isaC il_NoGround (isa_ok (ns := mades) rfl T.ev T.i_NoGround) rfl rfl T.n_isinstance rfl T.g_NoGround (se_name 0)) (sa_cons (se_isaC il_Broken (isa_ok (ns := mades) rfl T.ev T.i_Broken) rfl rfl T.n_isinstance rfl T.g_Broken (se_name 0)) (sa_cons (se_isaC il_Breaks (isa_ok (ns := mades) rfl T.ev T.i_Breaks) rfl rfl T.n_isinstance rfl T.g_Breaks (se_name 0)) sa_nil))) (soft_cons (soft_cons (soft_cons soft_nil))))) sc_l_marks.nd)
    (sss_one (ss_ret (se_add (se_name 1) (se_lst (sa_cons (se_isaC il_NoNumber (isa_ok (ns := mades) rfl T.ev T.i_NoNumber) rfl rfl T.n_isinstance rfl T.g_NoNumber (se_name 0)) sa_nil) (soft_cons soft_nil))))))))))))

abbrev n_l_made : List Str := ["text", "at", "made"]
theorem sc_l_made : FnScope n_l_made ["text", "at"] (defScope s_l_made) := ⟨rfl, rfl, rfl, by decide +kernel, rfl, by decide +kernel, by decide +kernel⟩
def g_l_made : FS := (sSeq (sSet false 2 (eLst (aCons (u1 (mk1D "NoNotions") (eName 0)) (aCons (u1 (mk1D "NoTerm") (eName 0)) (aCons (u1 (mk1D "NoField") (eName 0)) (aCons (u1 (mk1D "NoAtom") (eName 0)) (aCons (u1 (mk1D "NoRow") (eName 0)) (aCons (u1 (mk1D "NoRenaming") (eName 0)) aNil))))))))
    (sSeq (sSet false 2 (u2 addD (eName 2) (eLst (aCons (u1 (mk1D "NoWorld") (eName 0)) (aCons (u1 (mk1D "NoWay") (eName 0)) (aCons (u1 (mk1D "NoRule") (eName 0)) (aCons (u1 (mk1D "NoSituation") (eName 0)) (aCons (u1 (mk1D "NoTheory") (eName 0)) (aCons (u1 (mk1D "NoWalk") (eName 0)) aNil)))))))))
    (sSeq (sSet false 2 (u2 addD (eName 2) (eLst (aCons (u1 (mk1D "NoMost") (eName 0)) (aCons (u1 (mk1D "TooWide") (eName 0)) (aCons (u1 (mk1D "Unlike") (eName 0)) (aCons (u1 (mk1D "NoDeed") (eName 0)) (aCons (u1 (mk1D "NoText") (eName 0)) (aCons (u1 (mk1D "NoLine") (eName 0)) aNil)))))))))
    (sRet (u2 addD (eName 2) (eLst (aCons (u1 (mkND "NoGround") (eName 1)) (aCons (u1 (mkND "Broken") (u2 addD (eName 1) (eD (.int 1)))) (aCons (u1 (mkND "Breaks") (u2 addD (eName 1) (eD (.int 2)))) (aCons (u1 (mkND "NoNumber") (u2 addD (eName 1) (eD (.int 3)))) aNil))))))))))
abbrev d_l_made : FD := runD n_l_made.length g_l_made
theorem ok_l_made (T : Txt P K mg ct) : FnG P w K mg base (L2.CX P w) 2 T.a_l_made T.fd_l_made ["text", "at"] (spOf K ct (List.length (α := Str) ["text", "at"]) d_l_made) := by
  refine def_ok (k := 1) (N := n_l_made) (ps := ["text", "at"]) (g := g_l_made) T.F_l_made sc_l_made fun cdv A outer s H E hr quiet => ?_
  exact (sss_cons (ss_set false 2 (se_lst (sa_cons (se_mk1 PySem.F.excBase_ValueError T.x_NoNotions T.g_NoNotions T.kC_NoNotions T.nC_NoNotions rfl (se_name 0)) (sa_cons (se_mk1 PySem.F.excBase_ValueError T.x_NoTerm T.g_NoTerm T.kC_NoTerm T.nC_NoTerm rfl (se_name 0)) (sa_cons (se_mk1 PySem.F.excBase_ValueError T.x_NoField T.g_NoField T.kC_NoField T.nC_NoField rfl (se_name 0)) (sa_cons (se_mk1 PySem.F.excBase_ValueError T.x_NoAtom T.g_NoAtom T.kC_NoAtom T.nC_NoAtom rfl (se_name 0)) (sa_cons (se_mk1 PySem.F.excBase_ValueError T.x_NoRow T.g_NoRow T.kC_NoRow T.nC_NoRow rfl (se_name 0)) (sa_cons (se_mk1 PySem.F.excBase_ValueError T.x_NoRenaming T.g_NoRenaming T.kC_NoRenaming T.nC_NoRenaming rfl (se_name 0)) sa_nil)))))) (soft_cons (soft_cons (soft_cons (soft_cons (soft_cons (soft_cons soft_nil))))))) sc_l_made.nd)
    (sss_cons (ss_set false 2 (se_add (se_name 2) (se_lst (sa_cons (se_mk1 PySem.F.excBase_ValueError T.x_NoWorld T.g_NoWorld T.kC_NoWorld T.nC_NoWorld rfl (se_name 0)) (sa_cons (se_mk1 PySem.F.excBase_ValueError T.x_NoWay T.g_NoWay T.kC_NoWay T.nC_NoWay rfl (se_name 0)) (sa_cons (se_mk1 PySem.F.excBase_ValueError T.x_NoRule T.g_NoRule T.kC_NoRule T.nC_NoRule rfl (se_name 0)) (sa_cons (se_mk1 PySem.F.excBase_ValueError T.x_NoSituation T.g_NoSituation T.kC_NoSituation T.nC_NoSituation rfl (se_name 0)) (sa_cons (se_mk1 PySem.F.excBase_ValueError T.x_NoTheory T.g_NoTheory T.kC_NoTheory T.nC_NoTheory rfl (se_name 0)) (sa_cons (se_mk1 PySem.F.excBase_ValueError T.x_NoWalk T.g_NoWalk T.kC_NoWalk T.nC_NoWalk rfl (se_name 0)) sa_nil)))))) (soft_cons (soft_cons (soft_cons (soft_cons (soft_cons (soft_cons soft_nil)))))))) sc_l_made.nd)
    (sss_cons (ss_set false 2 (se_add (se_name 2) (se_lst (sa_cons (se_mk1 PySem.F.excBase_ValueError T.x_NoMost T.g_NoMost T.kC_NoMost T.nC_NoMost rfl (se_name 0)) (sa_cons (se_mk1 PySem.F.excBase_ValueError T.x_TooWide T.g_TooWide T.kC_TooWide T.nC_TooWide rfl (se_name 0)) (sa_cons (se_mk1 PySem.F.excBase_ValueError T.x_Unlike T.g_Unlike T.kC_Unlike T.nC_Unlike rfl (se_name 0)) (sa_cons (se_mk1 PySem.F.excBase_ValueError T.x_NoDeed T.g_NoDeed T.kC_NoDeed T.nC_NoDeed rfl (se_name 0)) (sa_cons (se_mk1 PySem.F.excBase_ValueError T.x_NoText T.g_NoText T.kC_NoText T.nC_NoText rfl (se_name 0)) (sa_cons (se_mk1 PySem.F.excBase_ValueError T.x_NoLine T.g_NoLine T.kC_NoLine T.nC_NoLine rfl (se_name 0)) sa_nil)))))) (soft_cons (soft_cons (soft_cons (soft_cons (soft_cons (soft_cons soft_nil)))))))) sc_l_made.nd)
    (sss_one (ss_ret (se_add (se_name 2) (se_lst (sa_cons (se_mkN (k := 0) T.Z_NoGround T.nC_NoGround (hr.mono (by decide)) T.n_super T.g_NoGround rfl (se_name 1)) (sa_cons (se_mkN (k := 0) T.Z_Broken T.nC_Broken (hr.mono (by decide)) T.n_super T.g_Broken rfl (se_add (se_name 1) se_int)) (sa_cons (se_mkN (k := 0) T.Z_Breaks T.nC_Breaks (hr.mono (by decide)) T.n_super T.g_Breaks rfl (se_add (se_name 1) se_int)) (sa_cons (se_mkN (k := 0) T.Z_NoNumber T.nC_NoNumber (hr.mono (by decide)) T.n_super T.g_NoNumber rfl (se_add (se_name 1) se_int)) sa_nil)))) (soft_cons (soft_cons (soft_cons (soft_cons soft_nil)))))))))))

abbrev n_law : List Str := ["script", "pool", "text", "at", "made", "one", "last", "place", "other", "k"]
theorem sc_law : FnScope n_law ["script"] (defScope s_law) := ⟨rfl, rfl, rfl, by decide +kernel, rfl, by decide +kernel, by decide +kernel⟩
def g_law : FS := (sSeq (sForI (iR1 (un maxD (aCons (eD (.int 1)) (aCons (un minD (aCons (eD (.int 16)) (aCons (un lenD (aCons (eName 0) aNil)) aNil))) aNil)))) (gN 9)
    (sSeq (sSet true 1 (eCall d_l_pool [false, false] (aCons (eName 0) (aCons (eName 9) aNil))))
    (sSeq (sSet false 2 (u2 ixD (eLst (aCons (eD (.str "")) (aCons (eD (.str "a")) (aCons (eD (.str "no term")) (aCons (eD (.str "0")) (aCons (u2 mulSD (eD (.str "x")) (eD (.int 60))) (aCons (eD (.str "~ !")) aNil))))))) (eCall d_l_take [true, false] (aCons (eName 1) (aCons (eD (.int 6)) aNil)))))
    (sSeq (sSet false 3 (eCall d_l_take [true, false] (aCons (eName 1) (aCons (u2 ixD (eLst (aCons (eD (.int 3)) (aCons (eD (.int 300)) (aCons (u2 powD (eD (.int 10)) (eD (.int 9))) aNil)))) (eCall d_l_take [true, false] (aCons (eName 1) (aCons (eD (.int 3)) aNil)))) aNil))))
    (sSeq (sSet false 4 (eCall d_l_made [false, false] (aCons (eName 2) (aCons (eName 3) aNil))))
    (sSeq (sForI (iR1 (eD (.int 22))) (gN 7)
    (sSeq (sSet false 5 (u2 ixD (eName 4) (eName 7)))
    (sSeq (sSet false 6 (u2 (asB eqE) (eName 7) (eD (.int 21))))
    (sSeq (sIf (tOrF (t2 eqE (u1 (isaD il_LoreError) (eName 5)) (eName 6)) (t2 eqE (u1 (isaD il_ValueError) (eName 5)) (eName 6)))
    (sRet (eD (.bool false)))
    sNext)
    (sSeq (sIf (t2 neE (u1 (isaD il_LookupError) (eName 5)) (eName 6))
    (sRet (eD (.bool false)))
    sNext)
    (sIf (t2 neE (eCall d_l_marks [false] (aCons (eName 5) aNil)) (eLc [8] (iR1 (eD (.int 22))) (gN 8) tTrue (u2 (asB eqE) (eName 8) (eName 7))))
    (sRet (eD (.bool false)))
    sNext))))))
    (sSeq (sSet false 8 (u1 (mkND "NoNumber") (u2 addD (eName 3) (eD (.int 9)))))
    (sIf (tOrF (t2 neE (eLc [5] (iSeq (eCut (eName 4) (oInt (eD (.int 18))) oNone)) (gN 5) tTrue (u1 (numD numbered) (eName 5))) (eLst (aCons (eName 3) (aCons (u2 addD (eName 3) (eD (.int 1))) (aCons (u2 addD (eName 3) (eD (.int 2))) (aCons (u2 addD (eName 3) (eD (.int 3))) aNil)))))) (t2 neE (u1 (numD numbered) (eName 8)) (u2 addD (eName 3) (eD (.int 9)))))
    (sRet (eD (.bool false)))
    sNext))))))))
    (sRet (eD (.bool true))))
abbrev d_law : FD := runD n_law.length g_law
theorem ok_law (T : Txt P K mg ct) : FnG P w K mg base (L2.CX P w) 3 T.a_law T.fd_law ["script"] (spOf K ct (List.length (α := Str) ["script"]) d_law) := by
  refine def_ok (k := 2) (N := n_law) (ps := ["script"]) (g := g_law) T.F_law sc_law fun cdv A outer s H E hr quiet => ?_
  exact (sss_cons (ss_for (passes_of rfl) rfl (si_range1 (se_fun (call_maxA rfl) rfl T.n_max bo_max (sa_cons se_int (sa_cons (se_fun (call_minA rfl) rfl T.n_min bo_min (sa_cons se_int (sa_cons (se_fun call_lenA rfl T.n_len bo_len (sa_cons (se_name 0) sa_nil)) sa_nil))) sa_nil))) rfl T.n_range) (sg_name 9 sc_law.nd)
    (sss_cons (ss_set true 1 (se_call [false, false] (ok_l_pool T) rfl (hr.mono (by decide)) quiet rfl T.m_l_pool T.F_l_pool.kp T.b_l_pool (takes_of rfl rfl rfl rfl) (sa_cons (se_name 0) (sa_cons (se_name 9) sa_nil)) (soft_cons (soft_cons soft_nil))) sc_law.nd)
    (sss_cons (ss_set false 2 (se_ix (se_lst (sa_cons se_str (sa_cons se_str (sa_cons se_str (sa_cons se_str (sa_cons (se_mulS se_str se_int) (sa_cons se_str sa_nil)))))) (soft_cons (soft_cons (soft_cons (soft_cons (soft_cons (soft_cons soft_nil))))))) (se_call [true, false] (ok_l_take T) rfl (hr.mono (by decide)) quiet rfl T.m_l_take T.F_l_take.kp T.b_l_take (takes_of rfl rfl rfl rfl) (sa_cons (se_name 1) (sa_cons se_int sa_nil)) (soft_cons (soft_cons soft_nil)))) sc_law.nd)
    (sss_cons (ss_set false 3 (se_call [true, false] (ok_l_take T) rfl (hr.mono (by decide)) quiet rfl T.m_l_take T.F_l_take.kp T.b_l_take (takes_of rfl rfl rfl rfl) (sa_cons (se_name 1) (sa_cons (se_ix (se_lst (sa_cons se_int (sa_cons se_int (sa_cons (se_pow se_int se_int) sa_nil))) (soft_cons (soft_cons (soft_cons soft_nil)))) (se_call [true, false] (ok_l_take T) rfl (hr.mono (by decide)) quiet rfl T.m_l_take T.F_l_take.kp T.b_l_take (takes_of rfl rfl rfl rfl) (sa_cons (se_name 1) (sa_cons se_int sa_nil)) (soft_cons (soft_cons soft_nil)))) sa_nil)) (soft_cons (soft_cons soft_nil))) sc_law.nd)
    (sss_cons (ss_set false 4 (se_call [false, false] (ok_l_made T) rfl (hr.mono (by decide)) quiet rfl T.m_l_made T.F_l_made.kp T.b_l_made (takes_of rfl rfl rfl rfl) (sa_cons (se_name 2) (sa_cons (se_name 3) sa_nil)) (soft_cons (soft_cons soft_nil))) sc_law.nd)
    (sss_cons (ss_for (passes_of rfl) rfl (si_range1 se_int rfl T.n_range) (sg_name 7 sc_law.nd)
    (sss_cons (ss_set false 5 (se_ix (se_name 4) (se_name 7)) sc_law.nd)
    (sss_cons (ss_set false 6 (se_cmp (rel_eqE (hu64 hr)) (se_name 7) se_int (nomark _)) sc_law.nd)
    (sss_cons (ss_if (st_w (sw_or (st_cmp (rel_eqE (hu64 hr)) (se_isaC il_LoreError (isa_ok (ns := mades) rfl T.ev T.i_LoreError) rfl rfl T.n_isinstance rfl T.g_LoreError (se_name 5)) (se_name 6) (nomark _)) (sw_or1 (st_cmp (rel_eqE (hu64 hr)) (se_isaT il_ValueError (isa_ok (ns := mades) rfl T.ev T.i_ValueError) rfl rfl T.n_isinstance rfl T.n_ValueError bt_ValueError (se_name 5)) (se_name 6) (nomark _)))))
    (sss_one (ss_ret se_bl))
    sss_nil)
    (sss_cons (ss_if (st_cmp (rel_neE (hu64 hr)) (se_isaT il_LookupError (isa_ok (ns := mades) rfl T.ev T.i_LookupError) rfl rfl T.n_isinstance rfl T.n_LookupError bt_LookupError (se_name 5)) (se_name 6) (nomark _))
    (sss_one (ss_ret se_bl))
    sss_nil)
    (sss_one (ss_if (st_cmp (rel_neE (hu64 hr)) (se_call [false] (ok_l_marks T) rfl (hr.mono (by decide)) quiet rfl T.m_l_marks T.F_l_marks.kp T.b_l_marks (takes_of rfl rfl rfl rfl) (sa_cons (se_name 5) sa_nil) (soft_cons soft_nil)) (se_lc [("other", 8)] rfl sc_law.nd (si_range1 se_int rfl T.n_range) (blkOk_by (N := n_law) (sc := defScope s_law) (by decide +kernel)) (by decide) (fun _ _ _ _ _ => (sg_name 8 sc_law.nd)) (fun _ _ _ _ _ => spt_nil) (fun _ _ _ _ _ => (se_cmp (rel_eqE (hu64 hr)) (se_name 8) (se_name 7) (nomark _)))) (nomark _))
    (sss_one (ss_ret se_bl))
    sss_nil)))))))
    (sss_cons (ss_set false 8 (se_mkN (k := 0) T.Z_NoNumber T.nC_NoNumber (hr.mono (by decide)) T.n_super T.g_NoNumber rfl (se_add (se_name 3) se_int)) sc_law.nd)
    (sss_one (ss_if (st_w (sw_or (st_cmp (rel_neE (hu64 hr)) (se_lc [("one", 5)] rfl sc_law.nd (si_seq (se_cut (se_name 4) (so_some se_int) so_none) (fun _ h => pi_list h) (fun _ h => pi_tup h)) (blkOk_by (N := n_law) (sc := defScope s_law) (by decide +kernel)) (by decide) (fun _ _ _ _ _ => (sg_name 5 sc_law.nd)) (fun _ _ _ _ _ => spt_nil) (fun _ _ _ _ _ => (se_num numbered rfl (num_ok T.xf) (se_name 5)))) (se_lst (sa_cons (se_name 3) (sa_cons (se_add (se_name 3) se_int) (sa_cons (se_add (se_name 3) se_int) (sa_cons (se_add (se_name 3) se_int) sa_nil)))) (soft_cons (soft_cons (soft_cons (soft_cons soft_nil))))) (nomark _)) (sw_or1 (st_cmp (rel_neE (hu64 hr)) (se_num numbered rfl (num_ok T.xf) (se_name 8)) (se_add (se_name 3) se_int) (nomark _)))))
    (sss_one (ss_ret se_bl))
    sss_nil)))))))))
    (sss_one (ss_ret se_bl)))

end
end G01
namespace G01
open PySem PySem.Spec PyProof.Rows L2 Px
theorem take_pos (p0 p1 p2 m : Int) (h0 : 0 < p0) (hm : 0 < m) (hm' : m < 1073741824) :
    d_l_take [.io (.lst [.int p0, .int p1, .int p2]), .val (.int m)] = .rt (.int (p0 % m)) [.lst [.int (p0 / m), .int p1, .int p2]] := by
  refine runD_rt (st := [.io (.lst [.int (p0 / m), .int p1, .int p2])]) ?_
  unfold g_l_take
  apply sSeq_rt
  apply sIf_ok
  · repeat' (first | apply u2_ok | apply u1_ok | apply t2_ok | apply un_ok | apply aCons_ok | apply eTup_ok | apply eLst_ok | apply tst_ok | apply tNotF_ok | apply eNot_ok | apply tOrF_ok | apply tAndF_ok | apply eOr_ok | apply eAnd_ok | apply eIf_ok | apply eOfT_ok | apply sSet_ok | apply sRet_ok | apply sExpr_ok | apply sSetIx_ok | apply int2_ok | rfl | (first | exact trivial | decide | omega | (simp only [List.length_cons, List.length_nil, Lim]; omega) | (refine ⟨?_, ?_⟩ <;> first | decide | omega) | (refine ⟨?_, ?_, ?_⟩ <;> first | decide | omega) | exact Or.inr (by refine ⟨?_, ?_⟩ <;> first | decide | omega) | exact Or.inl (by refine ⟨?_, ?_⟩ <;> first | decide | omega)))
  apply bif_t (decide_eq_true h0)
  apply sSeq_ok
  · repeat' (first | apply u2_ok | apply u1_ok | apply t2_ok | apply un_ok | apply aCons_ok | apply eTup_ok | apply eLst_ok | apply tst_ok | apply tNotF_ok | apply eNot_ok | apply tOrF_ok | apply tAndF_ok | apply eOr_ok | apply eAnd_ok | apply eIf_ok | apply eOfT_ok | apply sSet_ok | apply sRet_ok | apply sExpr_ok | apply sSetIx_ok | apply int2_ok | rfl | (first | exact trivial | decide | omega | (simp only [List.length_cons, List.length_nil, Lim]; omega) | (refine ⟨?_, ?_⟩ <;> first | decide | omega) | (refine ⟨?_, ?_, ?_⟩ <;> first | decide | omega) | exact Or.inr (by refine ⟨?_, ?_⟩ <;> first | decide | omega) | exact Or.inl (by refine ⟨?_, ?_⟩ <;> first | decide | omega)))
  apply sSeq_ok
  · repeat' (first | apply u2_ok | apply u1_ok | apply t2_ok | apply un_ok | apply aCons_ok | apply eTup_ok | apply eLst_ok | apply tst_ok | apply tNotF_ok | apply eNot_ok | apply tOrF_ok | apply tAndF_ok | apply eOr_ok | apply eAnd_ok | apply eIf_ok | apply eOfT_ok | apply sSet_ok | apply sRet_ok | apply sExpr_ok | apply sSetIx_ok | apply int2_ok | rfl | (first | exact trivial | decide | omega | (simp only [List.length_cons, List.length_nil, Lim]; omega) | (refine ⟨?_, ?_⟩ <;> first | decide | omega) | (refine ⟨?_, ?_, ?_⟩ <;> first | decide | omega) | exact Or.inr (by refine ⟨?_, ?_⟩ <;> first | decide | omega) | exact Or.inl (by refine ⟨?_, ?_⟩ <;> first | decide | omega)))
  repeat' (first | apply u2_ok | apply u1_ok | apply t2_ok | apply un_ok | apply aCons_ok | apply eTup_ok | apply eLst_ok | apply tst_ok | apply tNotF_ok | apply eNot_ok | apply tOrF_ok | apply tAndF_ok | apply eOr_ok | apply eAnd_ok | apply eIf_ok | apply eOfT_ok | apply sSet_ok | apply sRet_ok | apply sExpr_ok | apply sSetIx_ok | apply int2_ok | rfl | (first | exact trivial | decide | omega | (simp only [List.length_cons, List.length_nil, Lim]; omega) | (refine ⟨?_, ?_⟩ <;> first | decide | omega) | (refine ⟨?_, ?_, ?_⟩ <;> first | decide | omega) | exact Or.inr (by refine ⟨?_, ?_⟩ <;> first | decide | omega) | exact Or.inl (by refine ⟨?_, ?_⟩ <;> first | decide | omega)))
theorem take_neg (p0 p1 p2 m : Int) (h0 : ¬ 0 < p0) (h1 : 0 ≤ p1) (h1' : p1 < 1000000007) (h2 : 0 ≤ p2) (h2' : p2 < 1000000) (hm : 0 < m) (hm' : m < 1073741824) :
    ∃ d, 0 ≤ d ∧ d < m ∧ d_l_take [.io (.lst [.int p0, .int p1, .int p2]), .val (.int m)] = .rt (.int d) [.lst [.int p0, .int p1, .int (p2 + 1)]] := by
  have hh : ∀ x : Int, 0 ≤ x % m ∧ x % m < m := fun x => ⟨Int.emod_nonneg _ (by omega), Int.emod_lt_of_pos _ hm⟩
  suffices h : ∃ x : Int, d_l_take [.io (.lst [.int p0, .int p1, .int p2]), .val (.int m)] = .rt (.int (x % m)) [.lst [.int p0, .int p1, .int (p2 + 1)]] by
    obtain ⟨x, hx⟩ := h
    exact ⟨x % m, (hh x).1, (hh x).2, hx⟩
  apply Exists.intro
  apply runD_rt (st := [.io (.lst [.int p0, .int p1, .int (p2 + 1)])])
  unfold g_l_take
  apply sSeq_ok
  · apply sIf_ok
    · repeat' (first | apply u2_ok | apply u1_ok | apply t2_ok | apply un_ok | apply aCons_ok | apply eTup_ok | apply eLst_ok | apply tst_ok | apply tNotF_ok | apply eNot_ok | apply tOrF_ok | apply tAndF_ok | apply eOr_ok | apply eAnd_ok | apply eIf_ok | apply eOfT_ok | apply sSet_ok | apply sRet_ok | apply sExpr_ok | apply sSetIx_ok | apply int2_ok | rfl | (first | exact trivial | decide | omega | (simp only [List.length_cons, List.length_nil, Lim]; omega) | (refine ⟨?_, ?_⟩ <;> first | decide | omega) | (refine ⟨?_, ?_, ?_⟩ <;> first | decide | omega) | exact Or.inr (by refine ⟨?_, ?_⟩ <;> first | decide | omega) | exact Or.inl (by refine ⟨?_, ?_⟩ <;> first | decide | omega)))
    apply bif_f (decide_eq_false h0)
    rfl
  apply sSeq_ok
  · repeat' (first | apply u2_ok | apply u1_ok | apply t2_ok | apply un_ok | apply aCons_ok | apply eTup_ok | apply eLst_ok | apply tst_ok | apply tNotF_ok | apply eNot_ok | apply tOrF_ok | apply tAndF_ok | apply eOr_ok | apply eAnd_ok | apply eIf_ok | apply eOfT_ok | apply sSet_ok | apply sRet_ok | apply sExpr_ok | apply sSetIx_ok | apply int2_ok | rfl | (first | exact trivial | decide | omega | (simp only [List.length_cons, List.length_nil, Lim]; omega) | (refine ⟨?_, ?_⟩ <;> first | decide | omega) | (refine ⟨?_, ?_, ?_⟩ <;> first | decide | omega) | exact Or.inr (by refine ⟨?_, ?_⟩ <;> first | decide | omega) | exact Or.inl (by refine ⟨?_, ?_⟩ <;> first | decide | omega)))
  apply sSeq_ok
  · repeat' (first | apply u2_ok | apply u1_ok | apply t2_ok | apply un_ok | apply aCons_ok | apply eTup_ok | apply eLst_ok | apply tst_ok | apply tNotF_ok | apply eNot_ok | apply tOrF_ok | apply tAndF_ok | apply eOr_ok | apply eAnd_ok | apply eIf_ok | apply eOfT_ok | apply sSet_ok | apply sRet_ok | apply sExpr_ok | apply sSetIx_ok | apply int2_ok | rfl | (first | exact trivial | decide | omega | (simp only [List.length_cons, List.length_nil, Lim]; omega) | (refine ⟨?_, ?_⟩ <;> first | decide | omega) | (refine ⟨?_, ?_, ?_⟩ <;> first | decide | omega) | exact Or.inr (by refine ⟨?_, ?_⟩ <;> first | decide | omega) | exact Or.inl (by refine ⟨?_, ?_⟩ <;> first | decide | omega)))
  apply sSeq_ok
  · repeat' (first | apply u2_ok | apply u1_ok | apply t2_ok | apply un_ok | apply aCons_ok | apply eTup_ok | apply eLst_ok | apply tst_ok | apply tNotF_ok | apply eNot_ok | apply tOrF_ok | apply tAndF_ok | apply eOr_ok | apply eAnd_ok | apply eIf_ok | apply eOfT_ok | apply sSet_ok | apply sRet_ok | apply sExpr_ok | apply sSetIx_ok | apply int2_ok | rfl | (first | exact trivial | decide | omega | (simp only [List.length_cons, List.length_nil, Lim]; omega) | (refine ⟨?_, ?_⟩ <;> first | decide | omega) | (refine ⟨?_, ?_, ?_⟩ <;> first | decide | omega) | exact Or.inr (by refine ⟨?_, ?_⟩ <;> first | decide | omega) | exact Or.inl (by refine ⟨?_, ?_⟩ <;> first | decide | omega)))
  apply sSeq_ok
  · repeat' (first | apply u2_ok | apply u1_ok | apply t2_ok | apply un_ok | apply aCons_ok | apply eTup_ok | apply eLst_ok | apply tst_ok | apply tNotF_ok | apply eNot_ok | apply tOrF_ok | apply tAndF_ok | apply eOr_ok | apply eAnd_ok | apply eIf_ok | apply eOfT_ok | apply sSet_ok | apply sRet_ok | apply sExpr_ok | apply sSetIx_ok | apply int2_ok | rfl | (first | exact trivial | decide | omega | (simp only [List.length_cons, List.length_nil, Lim]; omega) | (refine ⟨?_, ?_⟩ <;> first | decide | omega) | (refine ⟨?_, ?_, ?_⟩ <;> first | decide | omega) | exact Or.inr (by refine ⟨?_, ?_⟩ <;> first | decide | omega) | exact Or.inl (by refine ⟨?_, ?_⟩ <;> first | decide | omega)))
    refine ⟨by decide, by decide, ?_⟩
    have q1 : 69621 * (p2 + 1) * (p2 + 1) ≤ 69621000000 * 1000000 := Int.mul_le_mul (by omega) (by omega) (by omega) (by omega)
    have q2 : 0 ≤ 69621 * (p2 + 1) * (p2 + 1) := Int.mul_nonneg (by omega) (by omega)
    have q3 := Int.emod_nonneg (((p1 * 48271 + 104729 * (p2 + 1) + 101) % 2147483629) ^ Int.toNat 5) (b := 2147483587) (by decide)
    have q4 := Int.emod_lt_of_pos (((p1 * 48271 + 104729 * (p2 + 1) + 101) % 2147483629) ^ Int.toNat 5) (b := 2147483587) (by decide)
    generalize ((p1 * 48271 + 104729 * (p2 + 1) + 101) % 2147483629) ^ Int.toNat 5 % 2147483587 = u at q3 q4 ⊢
    generalize 69621 * (p2 + 1) * (p2 + 1) = v at q1 q2 ⊢
    omega
  repeat' (first | apply u2_ok | apply u1_ok | apply t2_ok | apply un_ok | apply aCons_ok | apply eTup_ok | apply eLst_ok | apply tst_ok | apply tNotF_ok | apply eNot_ok | apply tOrF_ok | apply tAndF_ok | apply eOr_ok | apply eAnd_ok | apply eIf_ok | apply eOfT_ok | apply sSet_ok | apply sRet_ok | apply sExpr_ok | apply sSetIx_ok | apply int2_ok | rfl | (first | exact trivial | decide | omega | (simp only [List.length_cons, List.length_nil, Lim]; omega) | (refine ⟨?_, ?_⟩ <;> first | decide | omega) | (refine ⟨?_, ?_, ?_⟩ <;> first | decide | omega) | exact Or.inr (by refine ⟨?_, ?_⟩ <;> first | decide | omega) | exact Or.inl (by refine ⟨?_, ?_⟩ <;> first | decide | omega)))
/-- a pool that has drawn so often at most -/
def PoolAt (n : Int) (o : MO) : Prop := ∃ p0 p1 p2 : Int, o = .lst [.int p0, .int p1, .int p2] ∧ 0 ≤ p0 ∧ 0 ≤ p1 ∧ p1 < 1000000007 ∧ 0 ≤ p2 ∧ p2 ≤ n
theorem PoolAt.mono {n k : Int} {o : MO} (h : PoolAt n o) (l : n ≤ k) : PoolAt k o := by
  obtain ⟨p0, p1, p2, e, h0, h1, h2, h3, h4⟩ := h
  exact ⟨p0, p1, p2, e, h0, h1, h2, h3, by omega⟩
theorem take_ok {n m : Int} {o : MO} (h : PoolAt n o) (hn : n < 1000000) (hm : 0 < m) (hm' : m < 1073741824) :
    ∃ (d : Int) (o' : MO), d_l_take [.io o, .val (.int m)] = .rt (.int d) [o'] ∧ 0 ≤ d ∧ d < m ∧ PoolAt (n + 1) o' := by
  obtain ⟨p0, p1, p2, rfl, h0, h1, h2, h3, h4⟩ := h
  by_cases c : 0 < p0
  · exact ⟨_, _, take_pos p0 p1 p2 m c hm hm', Int.emod_nonneg _ (by omega), Int.emod_lt_of_pos _ hm, p0 / m, p1, p2, rfl, Int.ediv_nonneg h0 (by omega), h1, h2, h3, by omega⟩
  · obtain ⟨d, a, b, e⟩ := take_neg p0 p1 p2 m c h1 h2 h3 (by omega) hm hm'
    exact ⟨d, _, e, a, b, p0, p1, p2 + 1, rfl, h0, h1, h2, by omega, by omega⟩
theorem pool_ok (cs : List Int) (k : Nat) (hk : k < cs.length) (h16 : k < 16) : ∃ o, d_l_pool [.val (.list (cs.map .int)), .val (.int k)] = .rn o [] ∧ PoolAt 118786 o := by
  have at_k : ixD (.list (cs.map .int)) (.int k) = some (.val (.int cs[k])) := by
    have e : atI (cs.map PyData.int) (k : Int) = some (.int cs[k]) := by
      unfold atI ixN
      rw [if_pos (by omega), List.length_map, if_pos (by omega)]
      simp [hk]
    show (atI (cs.map PyData.int) (k : Int)).map OR.val = _
    rw [e]
    rfl
  have hh : ∀ x : Int, 0 ≤ x % 1000000007 ∧ x % 1000000007 < 1000000007 := fun x => ⟨Int.emod_nonneg _ (by omega), Int.emod_lt_of_pos _ (by omega)⟩
  suffices h : ∃ x y : Int, d_l_pool [.val (.list (cs.map .int)), .val (.int k)] = .rn (.lst [.int (if x > 0 then x else 0), .int (y % 1000000007), .int (7919 * k + 1)]) [] by
    obtain ⟨x, y, e⟩ := h
    refine ⟨.lst _, e, _, _, _, rfl, ?_, (hh y).1, (hh y).2, by omega, by omega⟩
    split <;> omega
  refine ⟨cs[k] - 10 ^ 18, cs[k], ?_⟩
  apply runD_rn (st := [])
  unfold g_l_pool
  apply sSeq_ok
  · repeat' (first | apply u2_ok | apply u1_ok | apply t2_ok | apply un_ok | apply aCons_ok | apply eTup_ok | apply eLst_ok | apply tst_ok | apply tNotF_ok | apply eNot_ok | apply tOrF_ok | apply tAndF_ok | apply eOr_ok | apply eAnd_ok | apply eIf_ok | apply eOfT_ok | apply sSet_ok | apply sRet_ok | apply sExpr_ok | apply sSetIx_ok | apply int2_ok | rfl | (first | exact trivial | decide | omega | (simp only [List.length_cons, List.length_nil, Lim]; omega) | (refine ⟨?_, ?_⟩ <;> first | decide | omega) | (refine ⟨?_, ?_, ?_⟩ <;> first | decide | omega) | exact Or.inr (by refine ⟨?_, ?_⟩ <;> first | decide | omega) | exact Or.inl (by refine ⟨?_, ?_⟩ <;> first | decide | omega)))
  apply sSeq_ok
  · apply sIf_ok
    · repeat' (first | apply u2_ok | apply u1_ok | apply t2_ok | apply un_ok | apply aCons_ok | apply eTup_ok | apply eLst_ok | apply tst_ok | apply tNotF_ok | apply eNot_ok | apply tOrF_ok | apply tAndF_ok | apply eOr_ok | apply eAnd_ok | apply eIf_ok | apply eOfT_ok | apply sSet_ok | apply sRet_ok | apply sExpr_ok | apply sSetIx_ok | apply int2_ok | rfl | (first | exact trivial | decide | omega | (simp only [List.length_cons, List.length_nil, Lim]; omega) | (refine ⟨?_, ?_⟩ <;> first | decide | omega) | (refine ⟨?_, ?_, ?_⟩ <;> first | decide | omega) | exact Or.inr (by refine ⟨?_, ?_⟩ <;> first | decide | omega) | exact Or.inl (by refine ⟨?_, ?_⟩ <;> first | decide | omega)))
    apply bif_t (decide_eq_true (show (k : Int) < ((cs.map PyData.int).length : Nat) by rw [List.length_map]; omega))
    apply sSet_ok
    · apply u2_ok
      · rfl
      · rfl
      · rfl
      · rfl
      · exact at_k
    · rfl
  apply sRetW_ok
  repeat' (first | apply u2_ok | apply u1_ok | apply t2_ok | apply un_ok | apply aCons_ok | apply eTup_ok | apply eLst_ok | apply tst_ok | apply tNotF_ok | apply eNot_ok | apply tOrF_ok | apply tAndF_ok | apply eOr_ok | apply eAnd_ok | apply eIf_ok | apply eOfT_ok | apply sSet_ok | apply sRet_ok | apply sExpr_ok | apply sSetIx_ok | apply int2_ok | rfl | (first | exact trivial | decide | omega | (simp only [List.length_cons, List.length_nil, Lim]; omega) | (refine ⟨?_, ?_⟩ <;> first | decide | omega) | (refine ⟨?_, ?_, ?_⟩ <;> first | decide | omega) | exact Or.inr (by refine ⟨?_, ?_⟩ <;> first | decide | omega) | exact Or.inl (by refine ⟨?_, ?_⟩ <;> first | decide | omega)))

theorem pool_none : ∃ o, d_l_pool [.val (.list []), .val (.int 0)] = .rn o [] ∧ PoolAt 118786 o := ⟨.lst [.int 0, .int 0, .int 1], rfl, 0, 0, 1, rfl, by omega, by omega, by omega, by omega, by omega⟩
end G01
namespace G01
open PySem PySem.Spec PyProof.Rows L2 Px
def madeL (n : Int) : List PyData := [exD "NoNotions", exD "NoTerm", exD "NoField", exD "NoAtom", exD "NoRow", exD "NoRenaming", exD "NoWorld", exD "NoWay", exD "NoRule", exD "NoSituation", exD "NoTheory", exD "NoWalk", exD "NoMost", exD "TooWide", exD "Unlike", exD "NoDeed", exD "NoText", exD "NoLine", exN "NoGround" n, exN "Broken" (n + 1), exN "Breaks" (n + 2), exN "NoNumber" (n + 3)]
abbrev iBody : FS := (sSeq (sSet false 5 (u2 ixD (eName 4) (eName 7)))
    (sSeq (sSet false 6 (u2 (asB eqE) (eName 7) (eD (.int 21))))
    (sSeq (sIf (tOrF (t2 eqE (u1 (isaD il_LoreError) (eName 5)) (eName 6)) (t2 eqE (u1 (isaD il_ValueError) (eName 5)) (eName 6)))
    (sRet (eD (.bool false)))
    sNext)
    (sSeq (sIf (t2 neE (u1 (isaD il_LookupError) (eName 5)) (eName 6))
    (sRet (eD (.bool false)))
    sNext)
    (sIf (t2 neE (eCall d_l_marks [false] (aCons (eName 5) aNil)) (eLc [8] (iR1 (eD (.int 22))) (gN 8) tTrue (u2 (asB eqE) (eName 8) (eName 7))))
    (sRet (eD (.bool false)))
    sNext)))))
theorem inner (sc tx nn s5 s6 s7 s8 s9 : Sl) (n : Int) (p : Nat) (st : Sto) : sForI (iR1 (eD (.int 22))) (gN 7) iBody [sc, .ref p, tx, nn, .val (.list (madeL n)), s5, s6, s7, s8, s9] st = .nx [sc, .ref p, tx, nn, .val (.list (madeL n)), .val (exN "NoNumber" (n + 3)), .val (.bool true), .val (.int 21), s8, s9] st := by
  kernel_rfl
abbrev made18 : List PyData := [exD "NoNotions", exD "NoTerm", exD "NoField", exD "NoAtom", exD "NoRow", exD "NoRenaming", exD "NoWorld", exD "NoWay", exD "NoRule", exD "NoSituation", exD "NoTheory", exD "NoWalk", exD "NoMost", exD "TooWide", exD "Unlike", exD "NoDeed", exD "NoText", exD "NoLine"]
theorem made_ok (t : PyData) (n : Int) (h : n.natAbs.log2 < 1920) (h1 : (n + 1).natAbs.log2 < 1920) (h2 : (n + 2).natAbs.log2 < 1920) (h3 : (n + 3).natAbs.log2 < 1920) : d_l_made [.val t, .val (.int n)] = .rt (.list (madeL n)) [] := by
  have m0 : mkND "NoGround" (.int n) = some (.val (exN "NoGround" n)) := if_pos h
  have m1 : mkND "Broken" (.int (n + 1)) = some (.val (exN "Broken" (n + 1))) := if_pos h1
  have m2 : mkND "Breaks" (.int (n + 2)) = some (.val (exN "Breaks" (n + 2))) := if_pos h2
  have m3 : mkND "NoNumber" (.int (n + 3)) = some (.val (exN "NoNumber" (n + 3))) := if_pos h3
  have e4 : eLst (aCons (u1 (mkND "NoGround") (eName 1)) (aCons (u1 (mkND "Broken") (u2 addD (eName 1) (eD (.int 1)))) (aCons (u1 (mkND "Breaks") (u2 addD (eName 1) (eD (.int 2)))) (aCons (u1 (mkND "NoNumber") (u2 addD (eName 1) (eD (.int 3)))) aNil)))) [.val t, .val (.int n), .val (.list made18)] [] = .ok (.new (.lst [exN "NoGround" n, exN "Broken" (n + 1), exN "Breaks" (n + 2), exN "NoNumber" (n + 3)])) [] :=
    eLst_ok (es := [.val (exN "NoGround" n), .val (exN "Broken" (n + 1)), .val (exN "Breaks" (n + 2)), .val (exN "NoNumber" (n + 3))]) (aCons_ok (u1_ok (e1 := .val (.int n)) rfl rfl m0) (aCons_ok (u1_ok (e1 := .val (.int (n + 1))) rfl rfl m1) (aCons_ok (u1_ok (e1 := .val (.int (n + 2))) rfl rfl m2) (aCons_ok (g := aNil) (es := []) (u1_ok (e1 := .val (.int (n + 3))) rfl rfl m3) rfl)))) rfl (by show 4 ≤ Lim; decide)
  have e5 : u2 addD (eName 2) (eLst (aCons (u1 (mkND "NoGround") (eName 1)) (aCons (u1 (mkND "Broken") (u2 addD (eName 1) (eD (.int 1)))) (aCons (u1 (mkND "Breaks") (u2 addD (eName 1) (eD (.int 2)))) (aCons (u1 (mkND "NoNumber") (u2 addD (eName 1) (eD (.int 3)))) aNil))))) [.val t, .val (.int n), .val (.list made18)] [] = .ok (.new (.lst (madeL n))) [] :=
    u2_ok (e1 := .val (.list made18)) (r := .new (.lst (madeL n))) rfl e4 rfl rfl (by kernel_rfl)
  refine runD_rt (st := []) ?_
  have e1 : (sSet false 2 (eLst (aCons (u1 (mk1D "NoNotions") (eName 0)) (aCons (u1 (mk1D "NoTerm") (eName 0)) (aCons (u1 (mk1D "NoField") (eName 0)) (aCons (u1 (mk1D "NoAtom") (eName 0)) (aCons (u1 (mk1D "NoRow") (eName 0)) (aCons (u1 (mk1D "NoRenaming") (eName 0)) aNil)))))))) [.val t, .val (.int n), .non] [] = .nx [.val t, .val (.int n), .val (.list [exD "NoNotions", exD "NoTerm", exD "NoField", exD "NoAtom", exD "NoRow", exD "NoRenaming"])] [] := by kernel_rfl
  unfold g_l_made
  refine sSeq_ok e1 (sSeq_ok (sl1 := [.val t, .val (.int n), .val (.list [exD "NoNotions", exD "NoTerm", exD "NoField", exD "NoAtom", exD "NoRow", exD "NoRenaming", exD "NoWorld", exD "NoWay", exD "NoRule", exD "NoSituation", exD "NoTheory", exD "NoWalk"])]) (st1 := []) (by kernel_rfl) (sSeq_ok (sl1 := [.val t, .val (.int n), .val (.list made18)]) (st1 := []) (by kernel_rfl) (sRet_ok e5 rfl)))
theorem ne4 (a b c d : Int) : neE (.list [.int a, .int b, .int c, .int d]) (.list [.int a, .int b, .int c, .int d]) = some false := by
  have o : okEq (.list [.int a, .int b, .int c, .int d]) = true := by rfl
  have e : PyData.eqv (.list [.int a, .int b, .int c, .int d]) (.list [.int a, .int b, .int c, .int d]) = true := by simp [PyData.eqv, PyData.eqvAll]
  show neD (.list [.int a, .int b, .int c, .int d]) (.list [.int a, .int b, .int c, .int d]) = _
  unfold neD
  simp [eqD, o, e]
theorem ne1 (a : Int) : neE (.int a) (.int a) = some false := by
  have o : okEq (.int a) = true := by rfl
  have e : PyData.eqv (.int a) (.int a) = true := by simp [PyData.eqv]
  show neD (.int a) (.int a) = _
  unfold neD
  simp [eqD, o, e]
abbrev lastS : FS := (sIf (tOrF (t2 neE (eLc [5] (iSeq (eCut (eName 4) (oInt (eD (.int 18))) oNone)) (gN 5) tTrue (u1 (numD numbered) (eName 5))) (eLst (aCons (eName 3) (aCons (u2 addD (eName 3) (eD (.int 1))) (aCons (u2 addD (eName 3) (eD (.int 2))) (aCons (u2 addD (eName 3) (eD (.int 3))) aNil)))))) (t2 neE (u1 (numD numbered) (eName 8)) (u2 addD (eName 3) (eD (.int 9)))))
    (sRet (eD (.bool false)))
    sNext)
theorem last_ok (sc tx s5 s6 s7 s9 : Sl) (n : Int) (p : Nat) (st : Sto) : lastS [sc, .ref p, tx, .val (.int n), .val (.list (madeL n)), s5, s6, s7, .val (exN "NoNumber" (n + 9)), s9] st = .nx [sc, .ref p, tx, .val (.int n), .val (.list (madeL n)), s5, s6, s7, .val (exN "NoNumber" (n + 9)), s9] st := by
  refine sIf_ok (k := false) (tOrF_ok (k := false) (t2_ok (e1 := .new (.lst [.int n, .int (n + 1), .int (n + 2), .int (n + 3)])) (e2 := .new (.lst [.int n, .int (n + 1), .int (n + 2), .int (n + 3)])) (st1 := st) (st2 := st) (by kernel_rfl) (by kernel_rfl) rfl rfl (ne4 _ _ _ _)) (bif_f rfl (t2_ok (e1 := .val (.int (n + 9))) (e2 := .val (.int (n + 9))) (st1 := st) (st2 := st) (by kernel_rfl) rfl rfl rfl (ne1 _)))) rfl
end G01
namespace G01
open PySem PySem.Spec PyProof.Rows L2 Px
abbrev SP (pre : Sto) (o : MO) : Sto := pre ++ [.live o]
theorem getP (pre : Sto) (o : MO) : (SP pre o)[pre.length]? = some (.live o) := by simp
theorem putP (pre : Sto) (o o2 : MO) : Px.putAll (SP pre o) [pre.length] [o2] = SP pre o2 := by
  unfold Px.putAll
  rw [getP]
  show Px.putAll ((pre ++ [Cell.live o]).set pre.length (Cell.live o2)) [] [] = _
  have : (pre ++ [Cell.live o]).set pre.length (.live o2) = pre ++ [.live o2] := by simp
  rw [this]
  rfl
theorem argP (pre : Sto) (o : MO) (vs : List PyData) : argsM (SP pre o) (.inr pre.length :: vs.map .inl) = some (.io o :: vs.map .val, [pre.length]) := by
  have go : ∀ vs : List PyData, argsM (SP pre o) (vs.map .inl) = some (vs.map .val, []) := by
    intro vs
    induction vs with
    | nil => rfl
    | cons v vs ih =>
      show (match argsM (SP pre o) (vs.map .inl) with
        | none => none
        | some (as, ns) => some (Arg.val v :: as, ns)) = _
      rw [ih]
      rfl
  show (match (SP pre o)[pre.length]?, argsM (SP pre o) (vs.map .inl) with
    | some (.live o), some (as, ns) => some (Arg.io o :: as, pre.length :: ns)
    | some (.io o), some (as, ns) => some (Arg.io o :: as, pre.length :: ns)
    | _, _ => none) = _
  rw [getP, go]
/-- a call that is told the pool -/
theorem callP {D : FD} {ms : List Bool} {fa : FA} {sl : Sls} {pre : Sto} {o o1 o2 : MO} {vs : List PyData} {d : PyData} (h2 : sl[1]? = some (.ref pre.length)) (hf : fa sl (SP pre o) = .ok (vs.map .val) (SP pre o1))
    (hm : fixM ms (.bor pre.length :: vs.map .val) (SP pre o1) = some (.inr pre.length :: vs.map .inl, SP pre o1)) (hD : D (.io o1 :: vs.map .val) = .rt d [o2]) : eCall D ms (aCons (eName 1) fa) sl (SP pre o) = .ok (.val d) (SP pre o2) := by
  have en : eName 1 sl (SP pre o) = .ok (.bor pre.length) (SP pre o) := by unfold eName; rw [h2]
  have := eCall_ok (sl := sl) (st := SP pre o) (D := D) (ms := ms) (os := [o2]) (ns := [pre.length]) (aCons_ok en hf) hm (argP pre o1 vs) (by simp) hD rfl
  rw [putP] at this
  exact this
theorem ix_nat {ds : List PyData} {j : Nat} (h : j < ds.length) : ixD (.list ds) (.int j) = some (.val ds[j]) ∧ ixD (.tuple ds) (.int j) = some (.val ds[j]) := by
  have e : atI ds (j : Int) = some ds[j] := by
    unfold atI ixN
    rw [if_pos (by omega), if_pos (by omega)]
    simp [h]
  constructor
  · show (atI ds (j : Int)).map OR.val = _
    rw [e]
    rfl
  · show (atI ds (j : Int)).map OR.val = _
    rw [e]
    rfl
theorem call2_new {D : FD} {f g : FE} {sl : Sls} {st : Sto} {a b : PyData} {o : MO} (hf : f sl st = .ok (.val a) st) (hg : g sl st = .ok (.val b) st) (hD : D [.val a, .val b] = .rn o []) : eCall D [false, false] (aCons f (aCons g aNil)) sl st = .ok (.new o) st := by
  have := eCall_new (sl := sl) (st := st) (D := D) (ms := [false, false]) (es := [.val a, .val b]) (rs := [.inl a, .inl b]) (as := [.val a, .val b]) (ns := []) (os := []) (st1 := st) (st2 := st) (aCons_ok hf (aCons_ok (g := aNil) (es := []) hg rfl)) rfl rfl (by decide) hD rfl
  rw [this]
  cases st <;> rfl
theorem outs_live : ∀ {st : Sto}, (∀ x ∈ st, ∃ y, x = Cell.live y) → outs st = []
  | [], _ => rfl
  | x :: st, h => by
    obtain ⟨y, rfl⟩ := h x List.mem_cons_self
    rfl

theorem call2_val {D : FD} {f g : FE} {sl : Sls} {st : Sto} {a b d : PyData} (hf : f sl st = .ok (.val a) st) (hg : g sl st = .ok (.val b) st) (hD : D [.val a, .val b] = .rt d []) : eCall D [false, false] (aCons f (aCons g aNil)) sl st = .ok (.val d) st := by
  have := eCall_ok (sl := sl) (st := st) (D := D) (ms := [false, false]) (es := [.val a, .val b]) (rs := [.inl a, .inl b]) (as := [.val a, .val b]) (ns := []) (os := []) (st1 := st) (st2 := st) (aCons_ok hf (aCons_ok (g := aNil) (es := []) hg rfl)) rfl rfl (by decide) hD rfl
  rw [this]
  cases st <;> rfl
theorem log_low {x : Int} (h0 : 0 ≤ x) (h : x < 2000000000) : x.natAbs.log2 < 1920 := by
  by_cases e : x.natAbs = 0
  · rw [e]; decide
  · have : x.natAbs.log2 < 31 := (Nat.log2_lt e).mpr (by omega)
    omega
abbrev txE : FE := eLst (aCons (eD (.str "")) (aCons (eD (.str "a")) (aCons (eD (.str "no term")) (aCons (eD (.str "0")) (aCons (u2 mulSD (eD (.str "x")) (eD (.int 60))) (aCons (eD (.str "~ !")) aNil))))))
def texts : List PyData := match txE [] [] with
  | .ok (.new (.lst l)) _ => l
  | _ => []
theorem txE_ok (sl : Sls) (st : Sto) : txE sl st = .ok (.new (.lst texts)) st := by kernel_rfl
theorem texts_len : texts.length = 6 := by kernel_rfl
abbrev upE : FE := eLst (aCons (eD (.int 3)) (aCons (eD (.int 300)) (aCons (u2 powD (eD (.int 10)) (eD (.int 9))) aNil)))
theorem upE_ok (sl : Sls) (st : Sto) : upE sl st = .ok (.new (.lst [.int 3, .int 300, .int 1000000000])) st := by kernel_rfl
abbrev kBody : FS := (sSeq (sSet true 1 (eCall d_l_pool [false, false] (aCons (eName 0) (aCons (eName 9) aNil))))
    (sSeq (sSet false 2 (u2 ixD txE (eCall d_l_take [true, false] (aCons (eName 1) (aCons (eD (.int 6)) aNil)))))
    (sSeq (sSet false 3 (eCall d_l_take [true, false] (aCons (eName 1) (aCons (u2 ixD upE (eCall d_l_take [true, false] (aCons (eName 1) (aCons (eD (.int 3)) aNil)))) aNil))))
    (sSeq (sSet false 4 (eCall d_l_made [false, false] (aCons (eName 2) (aCons (eName 3) aNil))))
    (sSeq (sForI (iR1 (eD (.int 22))) (gN 7) iBody)
    (sSeq (sSet false 8 (u1 (mkND "NoNumber") (u2 addD (eName 3) (eD (.int 9)))))
    lastS))))))
/-- one cell -/
theorem kBody_ok {ns : List Int} {i : Nat} {s1 s2 s3 s4 s5 s6 s7 s8 : Sl} {st : Sto} (hp : ∃ o, d_l_pool [.val (.list (ns.map .int)), .val (.int i)] = .rn o [] ∧ PoolAt 118786 o) :
    ∃ (s1' s2' s3' s4' s5' s6' s7' s8' : Sl) (o : MO), kBody [.val (.list (ns.map .int)), s1, s2, s3, s4, s5, s6, s7, s8, .val (.int i)] st = .nx [.val (.list (ns.map .int)), s1', s2', s3', s4', s5', s6', s7', s8', .val (.int i)] (st ++ [.live o]) := by
  obtain ⟨o, ep, p0⟩ := hp
  have e1 : eCall d_l_pool [false, false] (aCons (eName 0) (aCons (eName 9) aNil)) [.val (.list (ns.map .int)), s1, s2, s3, s4, s5, s6, s7, s8, .val (.int i)] st = .ok (.new o) st := call2_new rfl rfl ep
  obtain ⟨d1, o1, t1, a1, b1, p1⟩ := take_ok (m := 6) p0 (by omega) (by omega) (by omega)
  obtain ⟨j1, rfl⟩ := Int.eq_ofNat_of_zero_le a1
  have hj : j1 < texts.length := by rw [texts_len]; omega
  obtain ⟨d2, o2, t2, a2, b2, p2⟩ := take_ok (m := 3) p1 (by omega) (by omega) (by omega)
  obtain ⟨j2, rfl⟩ := Int.eq_ofNat_of_zero_le a2
  obtain ⟨m, hm, m0, m1⟩ : ∃ m : Int, ixD (.list [.int 3, .int 300, .int 1000000000]) (.int j2) = some (.val (.int m)) ∧ 0 < m ∧ m < 1073741824 := by
    have : j2 = 0 ∨ j2 = 1 ∨ j2 = 2 := by omega
    rcases this with rfl | rfl | rfl
    · exact ⟨3, rfl, by omega, by omega⟩
    · exact ⟨300, rfl, by omega, by omega⟩
    · exact ⟨1000000000, rfl, by omega, by omega⟩
  obtain ⟨n, o3, t3, a3, b3, p3⟩ := take_ok (m := m) p2 (by omega) m0 m1
  let S1 : Sls := [.val (.list (ns.map .int)), .ref st.length, s2, s3, s4, s5, s6, s7, s8, .val (.int i)]
  have c1 : eCall d_l_take [true, false] (aCons (eName 1) (aCons (eD (.int 6)) aNil)) S1 (SP st o) = .ok (.val (.int j1)) (SP st o1) := callP (vs := [.int 6]) rfl rfl rfl t1
  have e2 : u2 ixD txE (eCall d_l_take [true, false] (aCons (eName 1) (aCons (eD (.int 6)) aNil))) S1 (SP st o) = .ok (.val texts[j1]) (SP st o1) := u2_ok (e1 := .new (.lst texts)) (e2 := .val (.int j1)) (r := .val texts[j1]) (st1 := SP st o) (txE_ok _ _) c1 rfl rfl (ix_nat hj).1
  let S2 : Sls := [.val (.list (ns.map .int)), .ref st.length, .val texts[j1], s3, s4, s5, s6, s7, s8, .val (.int i)]
  have c2 : eCall d_l_take [true, false] (aCons (eName 1) (aCons (eD (.int 3)) aNil)) S2 (SP st o1) = .ok (.val (.int j2)) (SP st o2) := callP (vs := [.int 3]) rfl rfl rfl t2
  have c3 : u2 ixD upE (eCall d_l_take [true, false] (aCons (eName 1) (aCons (eD (.int 3)) aNil))) S2 (SP st o1) = .ok (.val (.int m)) (SP st o2) := u2_ok (e1 := .new (.lst [.int 3, .int 300, .int 1000000000])) (e2 := .val (.int j2)) (r := .val (.int m)) (st1 := SP st o1) (upE_ok _ _) c2 rfl rfl hm
  have e3 : eCall d_l_take [true, false] (aCons (eName 1) (aCons (u2 ixD upE (eCall d_l_take [true, false] (aCons (eName 1) (aCons (eD (.int 3)) aNil)))) aNil)) S2 (SP st o1) = .ok (.val (.int n)) (SP st o3) := callP (vs := [.int m]) rfl (aCons_ok (es := []) c3 rfl) rfl t3
  let S3 : Sls := [.val (.list (ns.map .int)), .ref st.length, .val texts[j1], .val (.int n), s4, s5, s6, s7, s8, .val (.int i)]
  have e4 : eCall d_l_made [false, false] (aCons (eName 2) (aCons (eName 3) aNil)) S3 (SP st o3) = .ok (.val (.list (madeL n))) (SP st o3) := call2_val rfl rfl (made_ok _ n (log_low a3 (by omega)) (log_low (by omega) (by omega)) (log_low (by omega) (by omega)) (log_low (by omega) (by omega)))
  have e8 : u1 (mkND "NoNumber") (u2 addD (eName 3) (eD (.int 9))) [.val (.list (ns.map .int)), .ref st.length, .val texts[j1], .val (.int n), .val (.list (madeL n)), .val (exN "NoNumber" (n + 3)), .val (.bool true), .val (.int 21), s8, .val (.int i)] (SP st o3) = .ok (.val (exN "NoNumber" (n + 9))) (SP st o3) :=
    u1_ok (e1 := .val (.int (n + 9))) (r := .val (exN "NoNumber" (n + 9))) rfl rfl (if_pos (log_low (by omega) (by omega)))
  exact ⟨_, _, _, _, _, _, _, _, o3, sSeq_ok (sSet_ok e1 rfl) (sSeq_ok (sSet_ok e2 rfl) (sSeq_ok (sSet_ok e3 rfl) (sSeq_ok (sSet_ok e4 rfl) (sSeq_ok (inner _ _ _ _ _ _ _ _ n _ _) (sSeq_ok (sSet_ok e8 rfl) (last_ok _ _ _ _ _ _ n _ _))))))⟩
theorem pool_all (ns : List Int) (i : Nat) (h : i < 16) (hi : i < ns.length ∨ ns = [] ∧ i = 0) : ∃ o, d_l_pool [.val (.list (ns.map .int)), .val (.int i)] = .rn o [] ∧ PoolAt 118786 o := by
  rcases hi with hi | ⟨rfl, rfl⟩
  · exact pool_ok ns i hi h
  · exact pool_none
/-- THE LAW -/
theorem d_law_true (ns : List Int) (h : ns.length ≤ 63) (hb : ∀ z ∈ ns, Builtin.Int.intBits z ≤ 1048576) : d_law [.val (.list (ns.map .int))] = .rt (.bool true) [] := by
  obtain ⟨q, q1, hq, hmin⟩ : ∃ q : Int, q ≤ 16 ∧ q ≤ ns.length ∧ minD [.int 16, .int ns.length] = some (.val (.int q)) := ⟨if (ns.length : Int) < 16 then (ns.length : Int) else 16, by split <;> omega, by split <;> omega, rfl⟩
  obtain ⟨m, m1, m2, m3, hmax⟩ : ∃ m : Int, 1 ≤ m ∧ m ≤ 16 ∧ (m ≤ ns.length ∨ m = 1) ∧ maxD [.int 1, .int q] = some (.val (.int m)) := ⟨if q > 1 then q else 1, by split <;> omega, by split <;> omega, by split <;> omega, rfl⟩
  have e1 : un maxD (aCons (eD (.int 1)) (aCons (un minD (aCons (eD (.int 16)) (aCons (un lenD (aCons (eName 0) aNil)) aNil))) aNil)) [.val (.list (ns.map .int)), .non, .non, .non, .non, .non, .non, .non, .non, .non] [] = .ok (.val (.int m)) [] := by
    have l1 : un lenD (aCons (eName 0) aNil) [.val (.list (ns.map .int)), .non, .non, .non, .non, .non, .non, .non, .non, .non] [] = .ok (.val (.int ns.length)) [] := by
      refine un_ok (r := .val (.int ns.length)) (es := [.val (.list (ns.map .int))]) (ds := [.list (ns.map .int)]) rfl rfl ?_
      show some (OR.val (.int (ns.map PyData.int).length)) = _
      rw [List.length_map]
    have l2 := un_ok (g := minD) (fa := aCons (eD (.int 16)) (aCons (un lenD (aCons (eName 0) aNil)) aNil)) (es := [.val (.int 16), .val (.int ns.length)]) (ds := [.int 16, .int ns.length]) (r := .val (.int q)) (aCons_ok (e1 := .val (.int 16)) rfl (aCons_ok (g := aNil) (es := []) l1 rfl)) rfl hmin
    exact un_ok (es := [.val (.int 1), .val (.int q)]) (ds := [.int 1, .int q]) (r := .val (.int m)) (aCons_ok (e1 := .val (.int 1)) rfl (aCons_ok (g := aNil) (es := []) l2 rfl)) rfl hmax
  obtain ⟨sl', st', f1, t1, t2, t3, t4, t5, t6, t7, t8, t9, g1, g2⟩ := sFor_inv (h := gN 9) (b := kBody)
    (fun i sl st => ∃ (t1 t2 t3 t4 t5 t6 t7 t8 t9 : Sl), sl = [.val (.list (ns.map .int)), t1, t2, t3, t4, t5, t6, t7, t8, t9] ∧ ∀ x ∈ st, ∃ y, x = Cell.live y)
    (rngL 0 m.toNat) 0 [.val (.list (ns.map .int)), .non, .non, .non, .non, .non, .non, .non, .non, .non] [] ⟨_, _, _, _, _, _, _, _, _, rfl, fun _ h => nomatch h⟩ (by
      rintro i dd sl st hd ⟨t1, t2, t3, t4, t5, t6, t7, t8, t9, rfl, hl⟩
      have il : i < m.toNat := by
        have := (List.getElem?_eq_some_iff.mp hd).1
        rw [rngL_len] at this
        exact this
      have hdd : dd = .int i := by
        obtain ⟨hi, e⟩ := List.getElem?_eq_some_iff.mp hd
        rw [← e]
        unfold rngL
        simp
      subst hdd
      have hi : i < ns.length ∨ ns = [] ∧ i = 0 := by
        cases ns with
        | nil => right; exact ⟨rfl, by simp only [List.length_nil] at m3; omega⟩
        | cons z r => left; simp only [List.length_cons] at m3 ⊢; omega
      obtain ⟨a1, a2, a3, a4, a5, a6, a7, a8, o, e⟩ := kBody_ok (ns := ns) (i := i) (s1 := t1) (s2 := t2) (s3 := t3) (s4 := t4) (s5 := t5) (s6 := t6) (s7 := t7) (s8 := t8) (st := st) (pool_all ns i (by omega) hi)
      refine ⟨_, rfl, _, _, e, _, _, _, _, _, _, _, _, _, rfl, fun x hx => ?_⟩
      rcases List.mem_append.mp hx with z | z
      · exact hl x z
      · exact ⟨o, List.mem_singleton.mp z⟩)
  have key : g_law [.val (.list (ns.map .int)), .non, .non, .non, .non, .non, .non, .non, .non, .non] [] = .rt (.bool true) st' := by
    unfold g_law
    exact sSeq_ok (sForI_ok (ds := rngL 0 m.toNat) (iR1_ok (n := m) e1 ⟨by omega, by omega⟩) f1) rfl
  show endD (g_law [.val (.list (ns.map .int)), .non, .non, .non, .non, .non, .non, .non, .non, .non] []) = _
  rw [key]
  show DR.rt (.bool true) (outs st') = _
  rw [outs_live g2]
end G01
namespace G01
open PySem PySem.Spec PyProof.Rows L2 Px
theorem all_mk {P : Program} {w : World} {K : PySem.W.Frag} {h : Heap} {mg : Str → Option Value} {fa : Addr} (X : K.In h) (G : h.Ns mainGlobals mg) (hfa : mg "law" = some (.ref fa))
    {f_l_pool : Addr} {od_l_pool an_l_pool : Option Addr} {sl_l_pool : Array (Option Value)} {oc_l_pool kV_l_pool dc_l_pool pm_l_pool cd_l_pool ct_l_pool : Value}
    {f_l_take : Addr} {od_l_take an_l_take : Option Addr} {sl_l_take : Array (Option Value)} {oc_l_take kV_l_take dc_l_take pm_l_take cd_l_take ct_l_take : Value}
    {f_l_marks : Addr} {od_l_marks an_l_marks : Option Addr} {sl_l_marks : Array (Option Value)} {oc_l_marks kV_l_marks dc_l_marks pm_l_marks cd_l_marks ct_l_marks : Value}
    {f_l_made : Addr} {od_l_made an_l_made : Option Addr} {sl_l_made : Array (Option Value)} {oc_l_made kV_l_made dc_l_made pm_l_made cd_l_made ct_l_made : Value}
    {f_law : Addr} {od_law an_law : Option Addr} {sl_law : Array (Option Value)} {oc_law kV_law dc_law pm_law cd_law ct_law : Value}
    {c_Breaks : Addr}
    {f_Breaks cda_Breaks cc_Breaks : Addr} {oc_Breaks ccl_Breaks cl_Breaks kV_Breaks doc_Breaks pm_Breaks ct_Breaks : Value} {od_Breaks cdd_Breaks cld_Breaks an_Breaks : Option Addr} {osl_Breaks ccs_Breaks csl_Breaks : Array (Option Value)} {vs_Breaks : Array Value} {file_Breaks : Str} {tf_Breaks : Tok}
    {c_Broken : Addr}
    {f_Broken cda_Broken cc_Broken : Addr} {oc_Broken ccl_Broken cl_Broken kV_Broken doc_Broken pm_Broken ct_Broken : Value} {od_Broken cdd_Broken cld_Broken an_Broken : Option Addr} {osl_Broken ccs_Broken csl_Broken : Array (Option Value)} {vs_Broken : Array Value} {file_Broken : Str} {tf_Broken : Tok}
    {c_LoreError : Addr}
    {c_NoAtom : Addr}
    {c_NoDeed : Addr}
    {c_NoField : Addr}
    {c_NoGround : Addr}
    {f_NoGround cda_NoGround cc_NoGround : Addr} {oc_NoGround ccl_NoGround cl_NoGround kV_NoGround doc_NoGround pm_NoGround ct_NoGround : Value} {od_NoGround cdd_NoGround cld_NoGround an_NoGround : Option Addr} {osl_NoGround ccs_NoGround csl_NoGround : Array (Option Value)} {vs_NoGround : Array Value} {file_NoGround : Str} {tf_NoGround : Tok}
    {c_NoLine : Addr}
    {c_NoMost : Addr}
    {c_NoNotions : Addr}
    {c_NoNumber : Addr}
    {f_NoNumber cda_NoNumber cc_NoNumber : Addr} {oc_NoNumber ccl_NoNumber cl_NoNumber kV_NoNumber doc_NoNumber pm_NoNumber ct_NoNumber : Value} {od_NoNumber cdd_NoNumber cld_NoNumber an_NoNumber : Option Addr} {osl_NoNumber ccs_NoNumber csl_NoNumber : Array (Option Value)} {vs_NoNumber : Array Value} {file_NoNumber : Str} {tf_NoNumber : Tok}
    {c_NoRenaming : Addr}
    {c_NoRow : Addr}
    {c_NoRule : Addr}
    {c_NoSituation : Addr}
    {c_NoTerm : Addr}
    {c_NoText : Addr}
    {c_NoTheory : Addr}
    {c_NoWalk : Addr}
    {c_NoWay : Addr}
    {c_NoWorld : Addr}
    {c_TooWide : Addr}
    {c_Unlike : Addr}
    (A_l_pool : PySem.W.nsIn K mainGlobals "_law_pool" = some (some (.ref f_l_pool)))
    (L_l_pool : K.lookup f_l_pool = some ⟨oc_l_pool, od_l_pool, .func (PySem.W.fnOf "_law_pool" "_law_pool" (defArgs s_l_pool) (defBody s_l_pool) (defScope s_l_pool) .none kV_l_pool dc_l_pool pm_l_pool an_l_pool cd_l_pool ct_l_pool), sl_l_pool⟩)
    (C_l_pool : PySem.W.codeIn K cd_l_pool "_law_pool" = true)
    (K_l_pool : PySem.W.keepIn K (.ref f_l_pool) = true)
    (A_l_take : PySem.W.nsIn K mainGlobals "_law_take" = some (some (.ref f_l_take)))
    (L_l_take : K.lookup f_l_take = some ⟨oc_l_take, od_l_take, .func (PySem.W.fnOf "_law_take" "_law_take" (defArgs s_l_take) (defBody s_l_take) (defScope s_l_take) .none kV_l_take dc_l_take pm_l_take an_l_take cd_l_take ct_l_take), sl_l_take⟩)
    (C_l_take : PySem.W.codeIn K cd_l_take "_law_take" = true)
    (K_l_take : PySem.W.keepIn K (.ref f_l_take) = true)
    (A_l_marks : PySem.W.nsIn K mainGlobals "_law_marks" = some (some (.ref f_l_marks)))
    (L_l_marks : K.lookup f_l_marks = some ⟨oc_l_marks, od_l_marks, .func (PySem.W.fnOf "_law_marks" "_law_marks" (defArgs s_l_marks) (defBody s_l_marks) (defScope s_l_marks) .none kV_l_marks dc_l_marks pm_l_marks an_l_marks cd_l_marks ct_l_marks), sl_l_marks⟩)
    (C_l_marks : PySem.W.codeIn K cd_l_marks "_law_marks" = true)
    (K_l_marks : PySem.W.keepIn K (.ref f_l_marks) = true)
    (A_l_made : PySem.W.nsIn K mainGlobals "_law_made" = some (some (.ref f_l_made)))
    (L_l_made : K.lookup f_l_made = some ⟨oc_l_made, od_l_made, .func (PySem.W.fnOf "_law_made" "_law_made" (defArgs s_l_made) (defBody s_l_made) (defScope s_l_made) .none kV_l_made dc_l_made pm_l_made an_l_made cd_l_made ct_l_made), sl_l_made⟩)
    (C_l_made : PySem.W.codeIn K cd_l_made "_law_made" = true)
    (K_l_made : PySem.W.keepIn K (.ref f_l_made) = true)
    (A_law : PySem.W.nsIn K mainGlobals "law" = some (some (.ref f_law)))
    (L_law : K.lookup f_law = some ⟨oc_law, od_law, .func (PySem.W.fnOf "law" "law" (defArgs s_law) (defBody s_law) (defScope s_law) .none kV_law dc_law pm_law an_law cd_law ct_law), sl_law⟩)
    (C_law : PySem.W.codeIn K cd_law "law" = true)
    (K_law : PySem.W.keepIn K (.ref f_law) = true)
    (N_LookupError : PySem.W.nsIn K mainGlobals "LookupError" = some none)
    (N_ValueError : PySem.W.nsIn K mainGlobals "ValueError" = some none)
    (N_isinstance : PySem.W.nsIn K mainGlobals "isinstance" = some none)
    (N_len : PySem.W.nsIn K mainGlobals "len" = some none)
    (N_max : PySem.W.nsIn K mainGlobals "max" = some none)
    (N_min : PySem.W.nsIn K mainGlobals "min" = some none)
    (N_range : PySem.W.nsIn K mainGlobals "range" = some none)
    (N_super : PySem.W.nsIn K mainGlobals "super" = some none)
    (A_Breaks : PySem.W.nsIn K mainGlobals "Breaks" = some (some (.ref c_Breaks)))
    (I1_Breaks : PySem.W.findIn K (.ref c_Breaks) "__init__" = some (some (.ref f_Breaks)))
    (I2_Breaks : PySem.W.typeIn K (.ref f_Breaks) = some (.type "function"))
    (I3_Breaks : K.lookup f_Breaks = some ⟨oc_Breaks, od_Breaks, .func (PySem.W.fnX "__init__" "Breaks.__init__" (defArgs si_Breaks) (defBody si_Breaks) (defScope si_Breaks) [("__class__", cc_Breaks)] .none kV_Breaks doc_Breaks pm_Breaks an_Breaks (.ref cda_Breaks) ct_Breaks), osl_Breaks⟩)
    (I4_Breaks : PySem.W.codeIn K (.ref cda_Breaks) "Breaks.__init__" = true)
    (I5_Breaks : K.lookup cda_Breaks = some ⟨ccl_Breaks, cdd_Breaks, .fields vs_Breaks, ccs_Breaks⟩)
    (I6_Breaks : vs_Breaks[2]? = some (.str file_Breaks tf_Breaks))
    (I7_Breaks : ((P.main.file : Str) == file_Breaks) = true)
    (I8_Breaks : K.lookup cc_Breaks = some ⟨cl_Breaks, cld_Breaks, .cell (some (.ref c_Breaks)), csl_Breaks⟩)
    (I9_Breaks : PySem.W.mroIn K c_Breaks (.ref c_Breaks) = some true)
    (I10_Breaks : PySem.W.excInitIn K c_Breaks [.type "ValueError", .type "Exception", .type "BaseException", .type "object"] "ValueError.__new__" = true)
    (I11_Breaks : PySem.W.subIn K (.ref c_Breaks) (.type "ValueError") = some true)
    (I12_Breaks : PySem.W.ks_superIn K c_Breaks c_Breaks "__init__" = some (some (.builtin "ValueError.__init__")))
    (I14_Breaks : PySem.W.findIn K (.ref c_Breaks) "__setattr__" = some (some (.builtin "object.__setattr__")))
    (I15_Breaks : PySem.W.excOver K c_Breaks [.type "ValueError", .type "Exception", .type "BaseException", .type "object"] = true)
    (I16_Breaks : PySem.W.takerIn K c_Breaks "number" = some none)
    (I17_Breaks : PySem.W.hasDictIn K c_Breaks = true)
    (I18_Breaks : PySem.W.keepIn K (.ref c_Breaks) = true)
    (A_Broken : PySem.W.nsIn K mainGlobals "Broken" = some (some (.ref c_Broken)))
    (I1_Broken : PySem.W.findIn K (.ref c_Broken) "__init__" = some (some (.ref f_Broken)))
    (I2_Broken : PySem.W.typeIn K (.ref f_Broken) = some (.type "function"))
    (I3_Broken : K.lookup f_Broken = some ⟨oc_Broken, od_Broken, .func (PySem.W.fnX "__init__" "Broken.__init__" (defArgs si_Broken) (defBody si_Broken) (defScope si_Broken) [("__class__", cc_Broken)] .none kV_Broken doc_Broken pm_Broken an_Broken (.ref cda_Broken) ct_Broken), osl_Broken⟩)
    (I4_Broken : PySem.W.codeIn K (.ref cda_Broken) "Broken.__init__" = true)
    (I5_Broken : K.lookup cda_Broken = some ⟨ccl_Broken, cdd_Broken, .fields vs_Broken, ccs_Broken⟩)
    (I6_Broken : vs_Broken[2]? = some (.str file_Broken tf_Broken))
    (I7_Broken : ((P.main.file : Str) == file_Broken) = true)
    (I8_Broken : K.lookup cc_Broken = some ⟨cl_Broken, cld_Broken, .cell (some (.ref c_Broken)), csl_Broken⟩)
    (I9_Broken : PySem.W.mroIn K c_Broken (.ref c_Broken) = some true)
    (I10_Broken : PySem.W.excInitIn K c_Broken [.type "ValueError", .type "Exception", .type "BaseException", .type "object"] "ValueError.__new__" = true)
    (I11_Broken : PySem.W.subIn K (.ref c_Broken) (.type "ValueError") = some true)
    (I12_Broken : PySem.W.ks_superIn K c_Broken c_Broken "__init__" = some (some (.builtin "ValueError.__init__")))
    (I14_Broken : PySem.W.findIn K (.ref c_Broken) "__setattr__" = some (some (.builtin "object.__setattr__")))
    (I15_Broken : PySem.W.excOver K c_Broken [.type "ValueError", .type "Exception", .type "BaseException", .type "object"] = true)
    (I16_Broken : PySem.W.takerIn K c_Broken "number" = some none)
    (I17_Broken : PySem.W.hasDictIn K c_Broken = true)
    (I18_Broken : PySem.W.keepIn K (.ref c_Broken) = true)
    (A_LoreError : PySem.W.nsIn K mainGlobals "LoreError" = some (some (.ref c_LoreError)))
    (A_NoAtom : PySem.W.nsIn K mainGlobals "NoAtom" = some (some (.ref c_NoAtom)))
    (X_NoAtom : PySem.W.excIn K c_NoAtom [.type "ValueError", .type "Exception", .type "BaseException", .type "object"] "ValueError.__new__" = true)
    (KC_NoAtom : PySem.W.keepIn K (.ref c_NoAtom) = true)
    (A_NoDeed : PySem.W.nsIn K mainGlobals "NoDeed" = some (some (.ref c_NoDeed)))
    (X_NoDeed : PySem.W.excIn K c_NoDeed [.type "ValueError", .type "Exception", .type "BaseException", .type "object"] "ValueError.__new__" = true)
    (KC_NoDeed : PySem.W.keepIn K (.ref c_NoDeed) = true)
    (A_NoField : PySem.W.nsIn K mainGlobals "NoField" = some (some (.ref c_NoField)))
    (X_NoField : PySem.W.excIn K c_NoField [.type "ValueError", .type "Exception", .type "BaseException", .type "object"] "ValueError.__new__" = true)
    (KC_NoField : PySem.W.keepIn K (.ref c_NoField) = true)
    (A_NoGround : PySem.W.nsIn K mainGlobals "NoGround" = some (some (.ref c_NoGround)))
    (I1_NoGround : PySem.W.findIn K (.ref c_NoGround) "__init__" = some (some (.ref f_NoGround)))
    (I2_NoGround : PySem.W.typeIn K (.ref f_NoGround) = some (.type "function"))
    (I3_NoGround : K.lookup f_NoGround = some ⟨oc_NoGround, od_NoGround, .func (PySem.W.fnX "__init__" "NoGround.__init__" (defArgs si_NoGround) (defBody si_NoGround) (defScope si_NoGround) [("__class__", cc_NoGround)] .none kV_NoGround doc_NoGround pm_NoGround an_NoGround (.ref cda_NoGround) ct_NoGround), osl_NoGround⟩)
    (I4_NoGround : PySem.W.codeIn K (.ref cda_NoGround) "NoGround.__init__" = true)
    (I5_NoGround : K.lookup cda_NoGround = some ⟨ccl_NoGround, cdd_NoGround, .fields vs_NoGround, ccs_NoGround⟩)
    (I6_NoGround : vs_NoGround[2]? = some (.str file_NoGround tf_NoGround))
    (I7_NoGround : ((P.main.file : Str) == file_NoGround) = true)
    (I8_NoGround : K.lookup cc_NoGround = some ⟨cl_NoGround, cld_NoGround, .cell (some (.ref c_NoGround)), csl_NoGround⟩)
    (I9_NoGround : PySem.W.mroIn K c_NoGround (.ref c_NoGround) = some true)
    (I10_NoGround : PySem.W.excInitIn K c_NoGround [.type "ValueError", .type "Exception", .type "BaseException", .type "object"] "ValueError.__new__" = true)
    (I11_NoGround : PySem.W.subIn K (.ref c_NoGround) (.type "ValueError") = some true)
    (I12_NoGround : PySem.W.ks_superIn K c_NoGround c_NoGround "__init__" = some (some (.builtin "ValueError.__init__")))
    (I14_NoGround : PySem.W.findIn K (.ref c_NoGround) "__setattr__" = some (some (.builtin "object.__setattr__")))
    (I15_NoGround : PySem.W.excOver K c_NoGround [.type "ValueError", .type "Exception", .type "BaseException", .type "object"] = true)
    (I16_NoGround : PySem.W.takerIn K c_NoGround "number" = some none)
    (I17_NoGround : PySem.W.hasDictIn K c_NoGround = true)
    (I18_NoGround : PySem.W.keepIn K (.ref c_NoGround) = true)
    (A_NoLine : PySem.W.nsIn K mainGlobals "NoLine" = some (some (.ref c_NoLine)))
    (X_NoLine : PySem.W.excIn K c_NoLine [.type "ValueError", .type "Exception", .type "BaseException", .type "object"] "ValueError.__new__" = true)
    (KC_NoLine : PySem.W.keepIn K (.ref c_NoLine) = true)
    (A_NoMost : PySem.W.nsIn K mainGlobals "NoMost" = some (some (.ref c_NoMost)))
    (X_NoMost : PySem.W.excIn K c_NoMost [.type "ValueError", .type "Exception", .type "BaseException", .type "object"] "ValueError.__new__" = true)
    (KC_NoMost : PySem.W.keepIn K (.ref c_NoMost) = true)
    (A_NoNotions : PySem.W.nsIn K mainGlobals "NoNotions" = some (some (.ref c_NoNotions)))
    (X_NoNotions : PySem.W.excIn K c_NoNotions [.type "ValueError", .type "Exception", .type "BaseException", .type "object"] "ValueError.__new__" = true)
    (KC_NoNotions : PySem.W.keepIn K (.ref c_NoNotions) = true)
    (A_NoNumber : PySem.W.nsIn K mainGlobals "NoNumber" = some (some (.ref c_NoNumber)))
    (I1_NoNumber : PySem.W.findIn K (.ref c_NoNumber) "__init__" = some (some (.ref f_NoNumber)))
    (I2_NoNumber : PySem.W.typeIn K (.ref f_NoNumber) = some (.type "function"))
    (I3_NoNumber : K.lookup f_NoNumber = some ⟨oc_NoNumber, od_NoNumber, .func (PySem.W.fnX "__init__" "NoNumber.__init__" (defArgs si_NoNumber) (defBody si_NoNumber) (defScope si_NoNumber) [("__class__", cc_NoNumber)] .none kV_NoNumber doc_NoNumber pm_NoNumber an_NoNumber (.ref cda_NoNumber) ct_NoNumber), osl_NoNumber⟩)
    (I4_NoNumber : PySem.W.codeIn K (.ref cda_NoNumber) "NoNumber.__init__" = true)
    (I5_NoNumber : K.lookup cda_NoNumber = some ⟨ccl_NoNumber, cdd_NoNumber, .fields vs_NoNumber, ccs_NoNumber⟩)
    (I6_NoNumber : vs_NoNumber[2]? = some (.str file_NoNumber tf_NoNumber))
    (I7_NoNumber : ((P.main.file : Str) == file_NoNumber) = true)
    (I8_NoNumber : K.lookup cc_NoNumber = some ⟨cl_NoNumber, cld_NoNumber, .cell (some (.ref c_NoNumber)), csl_NoNumber⟩)
    (I9_NoNumber : PySem.W.mroIn K c_NoNumber (.ref c_NoNumber) = some true)
    (I10_NoNumber : PySem.W.excInitIn K c_NoNumber [.type "LookupError", .type "Exception", .type "BaseException", .type "object"] "LookupError.__new__" = true)
    (I11_NoNumber : PySem.W.subIn K (.ref c_NoNumber) (.type "LookupError") = some true)
    (I12_NoNumber : PySem.W.ks_superIn K c_NoNumber c_NoNumber "__init__" = some (some (.builtin "LookupError.__init__")))
    (I14_NoNumber : PySem.W.findIn K (.ref c_NoNumber) "__setattr__" = some (some (.builtin "object.__setattr__")))
    (I15_NoNumber : PySem.W.excOver K c_NoNumber [.type "LookupError", .type "Exception", .type "BaseException", .type "object"] = true)
    (I16_NoNumber : PySem.W.takerIn K c_NoNumber "number" = some none)
    (I17_NoNumber : PySem.W.hasDictIn K c_NoNumber = true)
    (I18_NoNumber : PySem.W.keepIn K (.ref c_NoNumber) = true)
    (A_NoRenaming : PySem.W.nsIn K mainGlobals "NoRenaming" = some (some (.ref c_NoRenaming)))
    (X_NoRenaming : PySem.W.excIn K c_NoRenaming [.type "ValueError", .type "Exception", .type "BaseException", .type "object"] "ValueError.__new__" = true)
    (KC_NoRenaming : PySem.W.keepIn K (.ref c_NoRenaming) = true)
    (A_NoRow : PySem.W.nsIn K mainGlobals "NoRow" = some (some (.ref c_NoRow)))
    (X_NoRow : PySem.W.excIn K c_NoRow [.type "ValueError", .type "Exception", .type "BaseException", .type "object"] "ValueError.__new__" = true)
    (KC_NoRow : PySem.W.keepIn K (.ref c_NoRow) = true)
    (A_NoRule : PySem.W.nsIn K mainGlobals "NoRule" = some (some (.ref c_NoRule)))
    (X_NoRule : PySem.W.excIn K c_NoRule [.type "ValueError", .type "Exception", .type "BaseException", .type "object"] "ValueError.__new__" = true)
    (KC_NoRule : PySem.W.keepIn K (.ref c_NoRule) = true)
    (A_NoSituation : PySem.W.nsIn K mainGlobals "NoSituation" = some (some (.ref c_NoSituation)))
    (X_NoSituation : PySem.W.excIn K c_NoSituation [.type "ValueError", .type "Exception", .type "BaseException", .type "object"] "ValueError.__new__" = true)
    (KC_NoSituation : PySem.W.keepIn K (.ref c_NoSituation) = true)
    (A_NoTerm : PySem.W.nsIn K mainGlobals "NoTerm" = some (some (.ref c_NoTerm)))
    (X_NoTerm : PySem.W.excIn K c_NoTerm [.type "ValueError", .type "Exception", .type "BaseException", .type "object"] "ValueError.__new__" = true)
    (KC_NoTerm : PySem.W.keepIn K (.ref c_NoTerm) = true)
    (A_NoText : PySem.W.nsIn K mainGlobals "NoText" = some (some (.ref c_NoText)))
    (X_NoText : PySem.W.excIn K c_NoText [.type "ValueError", .type "Exception", .type "BaseException", .type "object"] "ValueError.__new__" = true)
    (KC_NoText : PySem.W.keepIn K (.ref c_NoText) = true)
    (A_NoTheory : PySem.W.nsIn K mainGlobals "NoTheory" = some (some (.ref c_NoTheory)))
    (X_NoTheory : PySem.W.excIn K c_NoTheory [.type "ValueError", .type "Exception", .type "BaseException", .type "object"] "ValueError.__new__" = true)
    (KC_NoTheory : PySem.W.keepIn K (.ref c_NoTheory) = true)
    (A_NoWalk : PySem.W.nsIn K mainGlobals "NoWalk" = some (some (.ref c_NoWalk)))
    (X_NoWalk : PySem.W.excIn K c_NoWalk [.type "ValueError", .type "Exception", .type "BaseException", .type "object"] "ValueError.__new__" = true)
    (KC_NoWalk : PySem.W.keepIn K (.ref c_NoWalk) = true)
    (A_NoWay : PySem.W.nsIn K mainGlobals "NoWay" = some (some (.ref c_NoWay)))
    (X_NoWay : PySem.W.excIn K c_NoWay [.type "ValueError", .type "Exception", .type "BaseException", .type "object"] "ValueError.__new__" = true)
    (KC_NoWay : PySem.W.keepIn K (.ref c_NoWay) = true)
    (A_NoWorld : PySem.W.nsIn K mainGlobals "NoWorld" = some (some (.ref c_NoWorld)))
    (X_NoWorld : PySem.W.excIn K c_NoWorld [.type "ValueError", .type "Exception", .type "BaseException", .type "object"] "ValueError.__new__" = true)
    (KC_NoWorld : PySem.W.keepIn K (.ref c_NoWorld) = true)
    (A_TooWide : PySem.W.nsIn K mainGlobals "TooWide" = some (some (.ref c_TooWide)))
    (X_TooWide : PySem.W.excIn K c_TooWide [.type "ValueError", .type "Exception", .type "BaseException", .type "object"] "ValueError.__new__" = true)
    (KC_TooWide : PySem.W.keepIn K (.ref c_TooWide) = true)
    (A_Unlike : PySem.W.nsIn K mainGlobals "Unlike" = some (some (.ref c_Unlike)))
    (X_Unlike : PySem.W.excIn K c_Unlike [.type "ValueError", .type "Exception", .type "BaseException", .type "object"] "ValueError.__new__" = true)
    (KC_Unlike : PySem.W.keepIn K (.ref c_Unlike) = true)
    (I13 : PySem.W.nsIn K cStatics "thirdparty.any" = some none)
    (I19 : (P.main.scope.names.lookup ("super" : Str)).isSome = false)
    (EV : allOf K mades (exvB K) = true)
    (II_Breaks : kitAll K (.ref c_Breaks) il_Breaks = true)
    (II_Broken : kitAll K (.ref c_Broken) il_Broken = true)
    (II_LookupError : kitAll K (.type "LookupError") il_LookupError = true)
    (II_LoreError : kitAll K (.ref c_LoreError) il_LoreError = true)
    (II_NoAtom : kitAll K (.ref c_NoAtom) il_NoAtom = true)
    (II_NoDeed : kitAll K (.ref c_NoDeed) il_NoDeed = true)
    (II_NoField : kitAll K (.ref c_NoField) il_NoField = true)
    (II_NoGround : kitAll K (.ref c_NoGround) il_NoGround = true)
    (II_NoLine : kitAll K (.ref c_NoLine) il_NoLine = true)
    (II_NoMost : kitAll K (.ref c_NoMost) il_NoMost = true)
    (II_NoNotions : kitAll K (.ref c_NoNotions) il_NoNotions = true)
    (II_NoNumber : kitAll K (.ref c_NoNumber) il_NoNumber = true)
    (II_NoRenaming : kitAll K (.ref c_NoRenaming) il_NoRenaming = true)
    (II_NoRow : kitAll K (.ref c_NoRow) il_NoRow = true)
    (II_NoRule : kitAll K (.ref c_NoRule) il_NoRule = true)
    (II_NoSituation : kitAll K (.ref c_NoSituation) il_NoSituation = true)
    (II_NoTerm : kitAll K (.ref c_NoTerm) il_NoTerm = true)
    (II_NoText : kitAll K (.ref c_NoText) il_NoText = true)
    (II_NoTheory : kitAll K (.ref c_NoTheory) il_NoTheory = true)
    (II_NoWalk : kitAll K (.ref c_NoWalk) il_NoWalk = true)
    (II_NoWay : kitAll K (.ref c_NoWay) il_NoWay = true)
    (II_NoWorld : kitAll K (.ref c_NoWorld) il_NoWorld = true)
    (II_TooWide : kitAll K (.ref c_TooWide) il_TooWide = true)
    (II_Unlike : kitAll K (.ref c_Unlike) il_Unlike = true)
    (II_ValueError : kitAll K (.type "ValueError") il_ValueError = true)
    (XF : allOf K numbered (numB K) = true) :
    ∃ fd : FuncData, (∀ (s : Shared) (u : Value), BindsTo s fd ⟨[u], []⟩ [("script", u)]) ∧ ∃ ct : Gx, ∀ base : Heap, K.In base → base.Ns mainGlobals mg → FnG P w K mg base (L2.CX P w) 3 fa fd ["script"] (spOf K ct (List.length (α := Str) ["script"]) d_law) := by
  have e : f_law = fa := Value.ref.inj (Option.some.inj ((PySem.W.mg_of X G A_law).symm.trans hfa))
  subst e
  let ct : Gx := ⟨fun x => none, 0, ⟨"", none⟩⟩
  let T : Txt P K mg ct := {
    a_l_pool := f_l_pool
    fd_l_pool := (PySem.W.fnOf "_law_pool" "_law_pool" (defArgs s_l_pool) (defBody s_l_pool) (defScope s_l_pool) .none kV_l_pool dc_l_pool pm_l_pool an_l_pool cd_l_pool ct_l_pool)
    F_l_pool := fun_mk L_l_pool C_l_pool K_l_pool
    m_l_pool := PySem.W.mg_of X G A_l_pool
    b_l_pool := Fun.binds (ps := ["script", "k"]) (fun_mk (st := s_l_pool) L_l_pool C_l_pool K_l_pool) fun _ _ _ _ _ _ us hl => match us, hl with | [_, _], _ => rfl
    a_l_take := f_l_take
    fd_l_take := (PySem.W.fnOf "_law_take" "_law_take" (defArgs s_l_take) (defBody s_l_take) (defScope s_l_take) .none kV_l_take dc_l_take pm_l_take an_l_take cd_l_take ct_l_take)
    F_l_take := fun_mk L_l_take C_l_take K_l_take
    m_l_take := PySem.W.mg_of X G A_l_take
    b_l_take := Fun.binds (ps := ["pool", "many"]) (fun_mk (st := s_l_take) L_l_take C_l_take K_l_take) fun _ _ _ _ _ _ us hl => match us, hl with | [_, _], _ => rfl
    a_l_marks := f_l_marks
    fd_l_marks := (PySem.W.fnOf "_law_marks" "_law_marks" (defArgs s_l_marks) (defBody s_l_marks) (defScope s_l_marks) .none kV_l_marks dc_l_marks pm_l_marks an_l_marks cd_l_marks ct_l_marks)
    F_l_marks := fun_mk L_l_marks C_l_marks K_l_marks
    m_l_marks := PySem.W.mg_of X G A_l_marks
    b_l_marks := Fun.binds (ps := ["one"]) (fun_mk (st := s_l_marks) L_l_marks C_l_marks K_l_marks) fun _ _ _ _ _ _ us hl => match us, hl with | [_], _ => rfl
    a_l_made := f_l_made
    fd_l_made := (PySem.W.fnOf "_law_made" "_law_made" (defArgs s_l_made) (defBody s_l_made) (defScope s_l_made) .none kV_l_made dc_l_made pm_l_made an_l_made cd_l_made ct_l_made)
    F_l_made := fun_mk L_l_made C_l_made K_l_made
    m_l_made := PySem.W.mg_of X G A_l_made
    b_l_made := Fun.binds (ps := ["text", "at"]) (fun_mk (st := s_l_made) L_l_made C_l_made K_l_made) fun _ _ _ _ _ _ us hl => match us, hl with | [_, _], _ => rfl
    a_law := f_law
    fd_law := (PySem.W.fnOf "law" "law" (defArgs s_law) (defBody s_law) (defScope s_law) .none kV_law dc_law pm_law an_law cd_law ct_law)
    F_law := fun_mk L_law C_law K_law
    m_law := PySem.W.mg_of X G A_law
    b_law := Fun.binds (ps := ["script"]) (fun_mk (st := s_law) L_law C_law K_law) fun _ _ _ _ _ _ us hl => match us, hl with | [_], _ => rfl
    n_LookupError := PySem.W.mg_none_of X G N_LookupError
    n_ValueError := PySem.W.mg_none_of X G N_ValueError
    n_isinstance := PySem.W.mg_none_of X G N_isinstance
    n_len := PySem.W.mg_none_of X G N_len
    n_max := PySem.W.mg_none_of X G N_max
    n_min := PySem.W.mg_none_of X G N_min
    n_range := PySem.W.mg_none_of X G N_range
    n_super := PySem.W.mg_none_of X G N_super
    c_Breaks := c_Breaks
    g_Breaks := PySem.W.mg_of X G A_Breaks
    nC_Breaks := A_Breaks
    Z_Breaks := z_Breaks I1_Breaks I2_Breaks I3_Breaks I4_Breaks I5_Breaks I6_Breaks I7_Breaks I8_Breaks I9_Breaks I10_Breaks I11_Breaks I12_Breaks I13 I14_Breaks I15_Breaks I16_Breaks I17_Breaks I18_Breaks I19
    c_Broken := c_Broken
    g_Broken := PySem.W.mg_of X G A_Broken
    nC_Broken := A_Broken
    Z_Broken := z_Broken I1_Broken I2_Broken I3_Broken I4_Broken I5_Broken I6_Broken I7_Broken I8_Broken I9_Broken I10_Broken I11_Broken I12_Broken I13 I14_Broken I15_Broken I16_Broken I17_Broken I18_Broken I19
    c_LoreError := c_LoreError
    g_LoreError := PySem.W.mg_of X G A_LoreError
    nC_LoreError := A_LoreError
    c_NoAtom := c_NoAtom
    g_NoAtom := PySem.W.mg_of X G A_NoAtom
    nC_NoAtom := A_NoAtom
    x_NoAtom := X_NoAtom
    kC_NoAtom := KC_NoAtom
    c_NoDeed := c_NoDeed
    g_NoDeed := PySem.W.mg_of X G A_NoDeed
    nC_NoDeed := A_NoDeed
    x_NoDeed := X_NoDeed
    kC_NoDeed := KC_NoDeed
    c_NoField := c_NoField
    g_NoField := PySem.W.mg_of X G A_NoField
    nC_NoField := A_NoField
    x_NoField := X_NoField
    kC_NoField := KC_NoField
    c_NoGround := c_NoGround
    g_NoGround := PySem.W.mg_of X G A_NoGround
    nC_NoGround := A_NoGround
    Z_NoGround := z_NoGround I1_NoGround I2_NoGround I3_NoGround I4_NoGround I5_NoGround I6_NoGround I7_NoGround I8_NoGround I9_NoGround I10_NoGround I11_NoGround I12_NoGround I13 I14_NoGround I15_NoGround I16_NoGround I17_NoGround I18_NoGround I19
    c_NoLine := c_NoLine
    g_NoLine := PySem.W.mg_of X G A_NoLine
    nC_NoLine := A_NoLine
    x_NoLine := X_NoLine
    kC_NoLine := KC_NoLine
    c_NoMost := c_NoMost
    g_NoMost := PySem.W.mg_of X G A_NoMost
    nC_NoMost := A_NoMost
    x_NoMost := X_NoMost
    kC_NoMost := KC_NoMost
    c_NoNotions := c_NoNotions
    g_NoNotions := PySem.W.mg_of X G A_NoNotions
    nC_NoNotions := A_NoNotions
    x_NoNotions := X_NoNotions
    kC_NoNotions := KC_NoNotions
    c_NoNumber := c_NoNumber
    g_NoNumber := PySem.W.mg_of X G A_NoNumber
    nC_NoNumber := A_NoNumber
    Z_NoNumber := z_NoNumber I1_NoNumber I2_NoNumber I3_NoNumber I4_NoNumber I5_NoNumber I6_NoNumber I7_NoNumber I8_NoNumber I9_NoNumber I10_NoNumber I11_NoNumber I12_NoNumber I13 I14_NoNumber I15_NoNumber I16_NoNumber I17_NoNumber I18_NoNumber I19
    c_NoRenaming := c_NoRenaming
    g_NoRenaming := PySem.W.mg_of X G A_NoRenaming
    nC_NoRenaming := A_NoRenaming
    x_NoRenaming := X_NoRenaming
    kC_NoRenaming := KC_NoRenaming
    c_NoRow := c_NoRow
    g_NoRow := PySem.W.mg_of X G A_NoRow
    nC_NoRow := A_NoRow
    x_NoRow := X_NoRow
    kC_NoRow := KC_NoRow
    c_NoRule := c_NoRule
    g_NoRule := PySem.W.mg_of X G A_NoRule
    nC_NoRule := A_NoRule
    x_NoRule := X_NoRule
    kC_NoRule := KC_NoRule
    c_NoSituation := c_NoSituation
    g_NoSituation := PySem.W.mg_of X G A_NoSituation
    nC_NoSituation := A_NoSituation
    x_NoSituation := X_NoSituation
    kC_NoSituation := KC_NoSituation
    c_NoTerm := c_NoTerm
    g_NoTerm := PySem.W.mg_of X G A_NoTerm
    nC_NoTerm := A_NoTerm
    x_NoTerm := X_NoTerm
    kC_NoTerm := KC_NoTerm
    c_NoText := c_NoText
    g_NoText := PySem.W.mg_of X G A_NoText
    nC_NoText := A_NoText
    x_NoText := X_NoText
    kC_NoText := KC_NoText
    c_NoTheory := c_NoTheory
    g_NoTheory := PySem.W.mg_of X G A_NoTheory
    nC_NoTheory := A_NoTheory
    x_NoTheory := X_NoTheory
    kC_NoTheory := KC_NoTheory
    c_NoWalk := c_NoWalk
    g_NoWalk := PySem.W.mg_of X G A_NoWalk
    nC_NoWalk := A_NoWalk
    x_NoWalk := X_NoWalk
    kC_NoWalk := KC_NoWalk
    c_NoWay := c_NoWay
    g_NoWay := PySem.W.mg_of X G A_NoWay
    nC_NoWay := A_NoWay
    x_NoWay := X_NoWay
    kC_NoWay := KC_NoWay
    c_NoWorld := c_NoWorld
    g_NoWorld := PySem.W.mg_of X G A_NoWorld
    nC_NoWorld := A_NoWorld
    x_NoWorld := X_NoWorld
    kC_NoWorld := KC_NoWorld
    c_TooWide := c_TooWide
    g_TooWide := PySem.W.mg_of X G A_TooWide
    nC_TooWide := A_TooWide
    x_TooWide := X_TooWide
    kC_TooWide := KC_TooWide
    c_Unlike := c_Unlike
    g_Unlike := PySem.W.mg_of X G A_Unlike
    nC_Unlike := A_Unlike
    x_Unlike := X_Unlike
    kC_Unlike := KC_Unlike
    ev := EV
    i_Breaks := II_Breaks
    i_Broken := II_Broken
    i_LookupError := II_LookupError
    i_LoreError := II_LoreError
    i_NoAtom := II_NoAtom
    i_NoDeed := II_NoDeed
    i_NoField := II_NoField
    i_NoGround := II_NoGround
    i_NoLine := II_NoLine
    i_NoMost := II_NoMost
    i_NoNotions := II_NoNotions
    i_NoNumber := II_NoNumber
    i_NoRenaming := II_NoRenaming
    i_NoRow := II_NoRow
    i_NoRule := II_NoRule
    i_NoSituation := II_NoSituation
    i_NoTerm := II_NoTerm
    i_NoText := II_NoText
    i_NoTheory := II_NoTheory
    i_NoWalk := II_NoWalk
    i_NoWay := II_NoWay
    i_NoWorld := II_NoWorld
    i_TooWide := II_TooWide
    i_Unlike := II_Unlike
    i_ValueError := II_ValueError
    xf := XF }
  exact ⟨T.fd_law, fun s u => .of_eq rfl, ct, fun base _ _ => ok_law T⟩
end G01
open PySem PySem.W PyProof.Rows
theorem PySem.Challenge.cw_lorestead_k01_refusals_stand_alone_holds : PySem.Challenge.rw_lorestead_k01_refusals_stand_alone.Holds := by
  w_on; o_law; k_head; (case hw => w_witness2)
  k_fill
  refine Px.walk_px (l := PySem.Challenge.rw_lorestead_k01_refusals_stand_alone) (n := 63) (k := 3) (D := G01.d_law) rfl (by decide) rfl ⟨rfl, by decide, by decide⟩ (fun w h Y => PySem.W.kIn_of Y) ?F G01.d_law_true
  case F =>
    intro w mg fa h KX G hmg
    refine' G01.all_mk KX G hmg ?A_l_pool ?L_l_pool ?C_l_pool ?K_l_pool ?A_l_take ?L_l_take ?C_l_take ?K_l_take ?A_l_marks ?L_l_marks ?C_l_marks ?K_l_marks ?A_l_made ?L_l_made ?C_l_made ?K_l_made ?A_law ?L_law ?C_law ?K_law ?N_LookupError ?N_ValueError ?N_isinstance ?N_len ?N_max ?N_min ?N_range ?N_super ?A_Breaks ?I1_Breaks ?I2_Breaks ?I3_Breaks ?I4_Breaks ?I5_Breaks ?I6_Breaks ?I7_Breaks ?I8_Breaks ?I9_Breaks ?I10_Breaks ?I11_Breaks ?I12_Breaks ?I14_Breaks ?I15_Breaks ?I16_Breaks ?I17_Breaks ?I18_Breaks ?A_Broken ?I1_Broken ?I2_Broken ?I3_Broken ?I4_Broken ?I5_Broken ?I6_Broken ?I7_Broken ?I8_Broken ?I9_Broken ?I10_Broken ?I11_Broken ?I12_Broken ?I14_Broken ?I15_Broken ?I16_Broken ?I17_Broken ?I18_Broken ?A_LoreError ?A_NoAtom ?X_NoAtom ?KC_NoAtom ?A_NoDeed ?X_NoDeed ?KC_NoDeed ?A_NoField ?X_NoField ?KC_NoField ?A_NoGround ?I1_NoGround ?I2_NoGround ?I3_NoGround ?I4_NoGround ?I5_NoGround ?I6_NoGround ?I7_NoGround ?I8_NoGround ?I9_NoGround ?I10_NoGround ?I11_NoGround ?I12_NoGround ?I14_NoGround ?I15_NoGround ?I16_NoGround ?I17_NoGround ?I18_NoGround ?A_NoLine ?X_NoLine ?KC_NoLine ?A_NoMost ?X_NoMost ?KC_NoMost ?A_NoNotions ?X_NoNotions ?KC_NoNotions ?A_NoNumber ?I1_NoNumber ?I2_NoNumber ?I3_NoNumber ?I4_NoNumber ?I5_NoNumber ?I6_NoNumber ?I7_NoNumber ?I8_NoNumber ?I9_NoNumber ?I10_NoNumber ?I11_NoNumber ?I12_NoNumber ?I14_NoNumber ?I15_NoNumber ?I16_NoNumber ?I17_NoNumber ?I18_NoNumber ?A_NoRenaming ?X_NoRenaming ?KC_NoRenaming ?A_NoRow ?X_NoRow ?KC_NoRow ?A_NoRule ?X_NoRule ?KC_NoRule ?A_NoSituation ?X_NoSituation ?KC_NoSituation ?A_NoTerm ?X_NoTerm ?KC_NoTerm ?A_NoText ?X_NoText ?KC_NoText ?A_NoTheory ?X_NoTheory ?KC_NoTheory ?A_NoWalk ?X_NoWalk ?KC_NoWalk ?A_NoWay ?X_NoWay ?KC_NoWay ?A_NoWorld ?X_NoWorld ?KC_NoWorld ?A_TooWide ?X_TooWide ?KC_TooWide ?A_Unlike ?X_Unlike ?KC_Unlike ?I13 ?I19 ?EV ?II_Breaks ?II_Broken ?II_LookupError ?II_LoreError ?II_NoAtom ?II_NoDeed ?II_NoField ?II_NoGround ?II_NoLine ?II_NoMost ?II_NoNotions ?II_NoNumber ?II_NoRenaming ?II_NoRow ?II_NoRule ?II_NoSituation ?II_NoTerm ?II_NoText ?II_NoTheory ?II_NoWalk ?II_NoWay ?II_NoWorld ?II_TooWide ?II_Unlike ?II_ValueError ?XF
    (case A_l_pool => k_is)
    (case L_l_pool => k_is)
    (case C_l_pool => k_is)
    (case K_l_pool => k_is)
    (case A_l_take => k_is)
    (case L_l_take => k_is)
    (case C_l_take => k_is)
    (case K_l_take => k_is)
    (case A_l_marks => k_is)
    (case L_l_marks => k_is)
    (case C_l_marks => k_is)
    (case K_l_marks => k_is)
    (case A_l_made => k_is)
    (case L_l_made => k_is)
    (case C_l_made => k_is)
    (case K_l_made => k_is)
    (case A_law => k_is)
    (case L_law => k_is)
    (case C_law => k_is)
    (case K_law => k_is)
    (case N_LookupError => k_is)
    (case N_ValueError => k_is)
    (case N_isinstance => k_is)
    (case N_len => k_is)
    (case N_max => k_is)
    (case N_min => k_is)
    (case N_range => k_is)
    (case N_super => k_is)
    (case A_Breaks => k_is)
    (case I1_Breaks => k_is)
    (case I2_Breaks => k_is)
    (case I3_Breaks => k_is)
    (case I4_Breaks => k_is)
    (case I5_Breaks => k_is)
    (case I6_Breaks => rfl)
    (case I7_Breaks => first | rfl | decide +kernel)
    (case I8_Breaks => k_is)
    (case I9_Breaks => k_is)
    (case I10_Breaks => kernel_rfl)
    (case I11_Breaks => k_is)
    (case I12_Breaks => kernel_rfl)
    (case I14_Breaks => k_is)
    (case I15_Breaks => kernel_rfl)
    (case I16_Breaks => first | k_is | kernel_rfl)
    (case I17_Breaks => k_is)
    (case I18_Breaks => k_is)
    (case A_Broken => k_is)
    (case I1_Broken => k_is)
    (case I2_Broken => k_is)
    (case I3_Broken => k_is)
    (case I4_Broken => k_is)
    (case I5_Broken => k_is)
    (case I6_Broken => rfl)
    (case I7_Broken => first | rfl | decide +kernel)
    (case I8_Broken => k_is)
    (case I9_Broken => k_is)
    (case I10_Broken => kernel_rfl)
    (case I11_Broken => k_is)
    (case I12_Broken => kernel_rfl)
    (case I14_Broken => k_is)
    (case I15_Broken => kernel_rfl)
    (case I16_Broken => first | k_is | kernel_rfl)
    (case I17_Broken => k_is)
    (case I18_Broken => k_is)
    (case A_LoreError => k_is)
    (case A_NoAtom => k_is)
    (case X_NoAtom => k_exc)
    (case KC_NoAtom => k_is)
    (case A_NoDeed => k_is)
    (case X_NoDeed => k_exc)
    (case KC_NoDeed => k_is)
    (case A_NoField => k_is)
    (case X_NoField => k_exc)
    (case KC_NoField => k_is)
    (case A_NoGround => k_is)
    (case I1_NoGround => k_is)
    (case I2_NoGround => k_is)
    (case I3_NoGround => k_is)
    (case I4_NoGround => k_is)
    (case I5_NoGround => k_is)
    (case I6_NoGround => rfl)
    (case I7_NoGround => first | rfl | decide +kernel)
    (case I8_NoGround => k_is)
    (case I9_NoGround => k_is)
    (case I10_NoGround => kernel_rfl)
    (case I11_NoGround => k_is)
    (case I12_NoGround => kernel_rfl)
    (case I14_NoGround => k_is)
    (case I15_NoGround => kernel_rfl)
    (case I16_NoGround => first | k_is | kernel_rfl)
    (case I17_NoGround => k_is)
    (case I18_NoGround => k_is)
    (case A_NoLine => k_is)
    (case X_NoLine => k_exc)
    (case KC_NoLine => k_is)
    (case A_NoMost => k_is)
    (case X_NoMost => k_exc)
    (case KC_NoMost => k_is)
    (case A_NoNotions => k_is)
    (case X_NoNotions => k_exc)
    (case KC_NoNotions => k_is)
    (case A_NoNumber => k_is)
    (case I1_NoNumber => k_is)
    (case I2_NoNumber => k_is)
    (case I3_NoNumber => k_is)
    (case I4_NoNumber => k_is)
    (case I5_NoNumber => k_is)
    (case I6_NoNumber => rfl)
    (case I7_NoNumber => first | rfl | decide +kernel)
    (case I8_NoNumber => k_is)
    (case I9_NoNumber => k_is)
    (case I10_NoNumber => kernel_rfl)
    (case I11_NoNumber => k_is)
    (case I12_NoNumber => kernel_rfl)
    (case I14_NoNumber => k_is)
    (case I15_NoNumber => kernel_rfl)
    (case I16_NoNumber => first | k_is | kernel_rfl)
    (case I17_NoNumber => k_is)
    (case I18_NoNumber => k_is)
    (case A_NoRenaming => k_is)
    (case X_NoRenaming => k_exc)
    (case KC_NoRenaming => k_is)
    (case A_NoRow => k_is)
    (case X_NoRow => k_exc)
    (case KC_NoRow => k_is)
    (case A_NoRule => k_is)
    (case X_NoRule => k_exc)
    (case KC_NoRule => k_is)
    (case A_NoSituation => k_is)
    (case X_NoSituation => k_exc)
    (case KC_NoSituation => k_is)
    (case A_NoTerm => k_is)
    (case X_NoTerm => k_exc)
    (case KC_NoTerm => k_is)
    (case A_NoText => k_is)
    (case X_NoText => k_exc)
    (case KC_NoText => k_is)
    (case A_NoTheory => k_is)
    (case X_NoTheory => k_exc)
    (case KC_NoTheory => k_is)
    (case A_NoWalk => k_is)
    (case X_NoWalk => k_exc)
    (case KC_NoWalk => k_is)
    (case A_NoWay => k_is)
    (case X_NoWay => k_exc)
    (case KC_NoWay => k_is)
    (case A_NoWorld => k_is)
    (case X_NoWorld => k_exc)
    (case KC_NoWorld => k_is)
    (case A_TooWide => k_is)
    (case X_TooWide => k_exc)
    (case KC_TooWide => k_is)
    (case A_Unlike => k_is)
    (case X_Unlike => k_exc)
    (case KC_Unlike => k_is)
    (case I13 => k_is)
    (case I19 => first | rfl | decide +kernel)
    (case EV => kernel_rfl)
    (case II_Breaks => kernel_rfl)
    (case II_Broken => kernel_rfl)
    (case II_LookupError => kernel_rfl)
    (case II_LoreError => kernel_rfl)
    (case II_NoAtom => kernel_rfl)
    (case II_NoDeed => kernel_rfl)
    (case II_NoField => kernel_rfl)
    (case II_NoGround => kernel_rfl)
    (case II_NoLine => kernel_rfl)
    (case II_NoMost => kernel_rfl)
    (case II_NoNotions => kernel_rfl)
    (case II_NoNumber => kernel_rfl)
    (case II_NoRenaming => kernel_rfl)
    (case II_NoRow => kernel_rfl)
    (case II_NoRule => kernel_rfl)
    (case II_NoSituation => kernel_rfl)
    (case II_NoTerm => kernel_rfl)
    (case II_NoText => kernel_rfl)
    (case II_NoTheory => kernel_rfl)
    (case II_NoWalk => kernel_rfl)
    (case II_NoWay => kernel_rfl)
    (case II_NoWorld => kernel_rfl)
    (case II_TooWide => kernel_rfl)
    (case II_Unlike => kernel_rfl)
    (case II_ValueError => kernel_rfl)
    (case XF => kernel_rfl)
#print axioms PySem.Challenge.cw_lorestead_k01_refusals_stand_alone_holds
