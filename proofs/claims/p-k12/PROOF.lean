import PyProof.Rows.All
import HandS.ForMost
import HandS.Wide
import HandS.Strs
import HandS.TupSets
import HandS.TupAny
import HandS.TupMul
import HandS.Flow
import HandS.Style
import HandS.IsInst
import HandS.Deep
import HandS.Conv
import HandS.Zip
import HandS.Replace
import HandS.Defaults
import HandS.SetKeys
import KE.KSortTupG
import KE.SortCalls
import PyProof.StrWalks
import KE.SortData
import HandS.Head2
import HandS.HeadEnd
import HandS.HeadHook1
import HandS.HeadHook2
import PyProof.ReprRoads
import HandS.Ends
import HandS.Words
import PyProof.EqKinds
import PyProof.P3Eq
import PyProof.P3In
import PyProof.FactsAll.dict_1
import PyProof.ListStr
import KE.GoesMore
import KE.GoesEnum
import PyProof.ReprBulk
import PyProof.StrLawsIn
import HandS.ReplaceList
import PyProof.CollectStr
import PyProof.DictMoreH
import KE.KEqDeep
import HandS.Text
import PyProof.TupleOfSeq
import KE.KDictPairs
import HandS.Small
import HandS.DictTup
import KE.KDictItemsList
import KE.KItemsList
import PyProof.StrBlock2
import PySem.Challenge.RW_openties_k12_knowledge_by_rules
import HandS.Base
import HandS.Call
import HandS.More
import HandS.WordsExc
import HandS.Head0
import HandS.Head1
import KE.KStateDown
set_option Elab.async false
set_option linter.all false
set_option maxRecDepth 100000
set_option maxHeartbeats 4000000
set_option autoImplicit false
namespace Pu
open PySem PySem.Spec PyProof.Rows L2
/-- a tuple that is plain, by the settled part of the heap or by what stands at the top -/
def PlT (K : PySem.W.Frag) (F : Hp) (a : Addr) (xs : List V) : Prop := (∃ o, F a = some (.frz o (.tup xs)) ∧ o.dict = none) ∨
  ∃ (o : Obj) (its : Array Value) (n : Nat), K.lookup a = some o ∧ o.cls = .type "tuple" ∧ o.data = .seq its n ∧ its.size ≤ sizeLine ∧ Vals xs its.toList ∧ o.dict = none
theorem PlT.sq {K : PySem.W.Frag} {F : Hp} {a : Addr} {xs : List V} (h : PlT K F a xs) : SqT K F a xs := by
  rcases h with ⟨o, h, _⟩ | ⟨o, its, n, h1, h2, h3, h4, h5, _⟩
  · exact .inl (.inr ⟨o, h⟩)
  · exact .inr ⟨o, its, n, h1, h2, h3, h4, h5⟩
theorem PlT.mono {K : PySem.W.Frag} {F G : Hp} {a : Addr} {xs : List V} (e : ∀ b o, F b = some o → G b = some o) (h : PlT K F a xs) : PlT K G a xs := h.imp (fun ⟨o, h, d⟩ => ⟨o, e _ _ h, d⟩) id
/-- what a new tuple of these gives -/
abbrev NewT (H : Hp) (Q : VK) (xs : List V) : Prop := ∀ (q : Addr) (ob : Obj), H q = none → ob.dict = none → Q (.ref q) (upd H q (.frz ob (.tup xs)))
abbrev tupO (its : List Value) : Obj := { cls := .type "tuple", data := .seq its.toArray }
section
variable {X : Cx} {pins : List (Addr × Obj)} {σ : L2.St} {H : Hp} {s : Shared} {xs ys : List V} {its : List Value}
theorem laidT (I : Inv X pins σ H s) (r : Vals xs its) (z : xs.length ≤ sizeLine) : Inv X pins σ (upd H s.heap.objs.size (.frz (tupO its) (.tup xs))) { s with heap := s.heap.push (tupO its) } :=
  I.laid (t' := s.toks) (fun b u e => Heap.get?_push_of_some _ e) (Nat.le_refl _) ⟨Heap.get?_push_size _ rfl, z, its, r, ⟨_, Heap.get?_push_size _ rfl, rfl, _, rfl⟩⟩
theorem newT (I : Inv X pins σ H s) {Q : VK} (q : NewT H Q xs) : Q (.ref s.heap.objs.size) (upd H s.heap.objs.size (.frz (tupO its) (.tup xs))) := q _ _ (I.hok.fresh (Nat.le_refl _)) rfl
def tTupP (t : TA) : TE := fun σ H Q => t σ H fun vs H1 => vs.length ≤ sizeLine ∧ NewT H1 Q vs
theorem pe_tupP {es : List Expr} {t : TA} {pos : Pos} {x1 : Nat} (h : PA X es t) : PE X (.Tuple es x1 pos) (tTupP t) :=
  ⟨fun pins s σ H Q I hq => wpAny_Tuple_spliced (thn (h.run pos pins s σ H _ I hq) fun us s1 ⟨vs, H1, I1, r, z, q⟩ => ⟨by rw [← r.length]; exact z, .ref s1.heap.objs.size, _, laidT I1 r z, rfl, newT I1 q⟩)⟩
def rCatP (K : PySem.W.Frag) : R2 := fun x y H Q => ∃ a b xs ys, x = .ref a ∧ y = .ref b ∧ SqT K H a xs ∧ SqT K H b ys ∧ xs.length + ys.length ≤ sizeLine ∧ (xs = [] → Q (.ref b) H) ∧ (xs ≠ [] → ys = [] → Q (.ref a) H) ∧ (xs ≠ [] → ys ≠ [] → NewT H Q (xs ++ ys))
theorem op_catP : OpR X (binaryOp .Add) (rCatP X.K) := by
  intro pins s σ H x y v u Q I rx ry ⟨a, b, xs, ys, e1, e2, ha, hb, hz, q0, q1, q2⟩
  subst e1 e2
  by_cases hx : xs = []
  · exact op_catA pins s σ H _ _ v u Q I rx ry ⟨a, b, xs, ys, rfl, rfl, ha, hb, hz, q0, q1, fun z => absurd hx z⟩
  · cases rx
    cases ry
    obtain ⟨is, r1, p1, _⟩ := I.tuple ha
    obtain ⟨js, r2, p2, _⟩ := I.tuple hb
    refine HT.cat_tup p1 p2 (fun z => hx (r1.nil_iff.mp z)) (fun z => ⟨.ref a, H, I, rfl, q1 hx (r2.nil_iff.mp z)⟩) (fun z => ⟨.ref s.heap.objs.size, _, ?_, rfl, newT (its := is ++ js) I (q2 hx fun e => z (r2.nil_iff.mpr e))⟩) (by rw [← r1.length, ← r2.length]; exact hz)
    exact laidT I (r1.append r2) (by rw [List.length_append]; exact hz)
def rSlP (K : PySem.W.Frag) : V → Option Int → Option Int → Hp → VK → Prop := fun x lo hi H Q => ∃ a xs, x = .ref a ∧ SqT K H a xs ∧
  (HT.sIx xs.length 0 lo = 0 ∧ HT.sIx xs.length xs.length hi = xs.length → Q (.ref a) H) ∧ (¬ (HT.sIx xs.length 0 lo = 0 ∧ HT.sIx xs.length xs.length hi = xs.length) → NewT H Q (cutV xs lo hi))
theorem sl_tupP : SlR X (rSlP X.K) := by
  intro pins s σ H x v vl vu lo hi sl Q I rx hs pl pu ⟨a, xs, e1, hx, q1, q2⟩
  by_cases hw : HT.sIx xs.length 0 lo = 0 ∧ HT.sIx xs.length xs.length hi = xs.length
  · exact sl_tupA pins s σ H x v vl vu lo hi sl Q I rx hs pl pu ⟨a, xs, e1, hx, q1, fun z => absurd hw z⟩
  · subst e1
    cases rx
    obtain ⟨is, r, ht, hz⟩ := I.tuple hx
    have hlen : is.toArray.size = xs.length := List.size_toArray.trans r.length.symm
    refine ⟨"tuple", _, PyProof.Rows.slot_tuple_getitem.lookup, ht.typeIs, HT.getItem_tuple_cut ht hs pl pu (by rw [hlen]; exact hw) ?_ (by rw [hlen]; exact hz)⟩
    rw [hlen]
    exact ⟨.ref s.heap.objs.size, _, laidT I ((r.drop (HT.sIx xs.length 0 lo)).take (HT.sIx xs.length xs.length hi - HT.sIx xs.length 0 lo)) (Nat.le_trans (cutV_length xs lo hi) hz), rfl, newT I (q2 hw)⟩
theorem call_tupleP : CallR X (.type "tuple") (fun vs H Q => ∃ p ys, vs = [.ref p] ∧ ((SqL X.K H p ys ∧ NewT H Q ys) ∨ (SqT X.K H p ys ∧ Q (.ref p) H))) := by
  intro pins s σ H vs us Q I r ⟨p, ys, e, h⟩
  subst e
  obtain ⟨u, rfl, rx⟩ := vals1 r
  cases rx
  rcases h with ⟨hq, q⟩ | ⟨hq, q⟩
  · obtain ⟨is, r', pl, hz⟩ := I.list hq
    have hlen := r'.length
    refine call_tuple_list pl.isList (fun h2 kp => let I1 : Inv X pins σ H { s with heap := h2 } := I.kept (t' := s.toks) kp; ⟨.ref h2.objs.size, _, laidT I1 r' hz, rfl, newT (its := is) I1 q⟩) ?_
    simp only [List.size_toArray]
    omega
  · obtain ⟨is, r', pl, hz⟩ := I.tuple hq
    exact call_tuple_same pl ⟨.ref p, H, I, rfl, q⟩
end
end Pu
namespace Pu
open PySem PySem.Spec PyProof.Rows L2
mutual
/-- a value stands for a datum, by the settled part F of the heap -/
inductive RV (K : PySem.W.Frag) (F : Hp) : V → PyData → Prop
  | non : RV K F .non .none
  | bl (b : Bool) : RV K F (.bl b) (.bool b)
  | int (i : Int) : RV K F (.int i) (.int i)
  | str (x : Str) : RV K F (.str x) (.str x)
  | lst {a : Addr} {xs : List V} {ds : List PyData} : F a = some (.lst xs) → RVs K F xs ds → RV K F (.ref a) (.list ds)
  | tup {a : Addr} {xs : List V} {ds : List PyData} : PlT K F a xs → RVs K F xs ds → RV K F (.ref a) (.tuple ds)
  | dct {a : Addr} : F a = some (.dK []) → RV K F (.ref a) (.dict [])
inductive RVs (K : PySem.W.Frag) (F : Hp) : List V → List PyData → Prop
  | nil : RVs K F [] []
  | cons {v : V} {vs : List V} {d : PyData} {ds : List PyData} : RV K F v d → RVs K F vs ds → RVs K F (v :: vs) (d :: ds)
end
theorem Same.tup {K : PySem.W.Frag} {F G : Hp} {a : Addr} {xs : List V} (e : Same F G) (h : SqT K F a xs) : SqT K G a xs := by
  rcases h with (h | ⟨o, h⟩) | h
  · exact .inl (.inl (e _ _ h))
  · exact .inl (.inr ⟨o, e _ _ h⟩)
  · exact .inr h
section
variable {K : PySem.W.Frag} {F G : Hp}
mutual
theorem RV.mono (e : Same F G) : ∀ {v : V} {d : PyData}, RV K F v d → RV K G v d
  | _, _, .non => .non
  | _, _, .bl b => .bl b
  | _, _, .int i => .int i
  | _, _, .str x => .str x
  | _, _, .lst h r => .lst (e _ _ h) (RVs.mono e r)
  | _, _, .tup h r => .tup (h.mono e) (RVs.mono e r)
  | _, _, .dct h => .dct (e _ _ h)
theorem RVs.mono (e : Same F G) : ∀ {vs : List V} {ds : List PyData}, RVs K F vs ds → RVs K G vs ds
  | _, _, .nil => .nil
  | _, _, .cons r t => .cons (RV.mono e r) (RVs.mono e t)
end
theorem RVs.len : ∀ {vs : List V} {ds : List PyData}, RVs K F vs ds → vs.length = ds.length
  | _, _, .nil => rfl
  | _, _, .cons _ t => congrArg (· + 1) (RVs.len t)
theorem RVs.at' : ∀ {vs : List V} {ds : List PyData} {i : Nat} {d : PyData}, RVs K F vs ds → ds[i]? = some d → ∃ v, vs[i]? = some v ∧ RV K F v d
  | _, _, _, _, .nil, h => by simp at h
  | _, _, 0, _, .cons r _, h => by simp at h; subst h; exact ⟨_, rfl, r⟩
  | _, _, i + 1, d, .cons _ t, h => by
    obtain ⟨v, h1, h2⟩ := RVs.at' (i := i) (d := d) t (by simpa using h)
    exact ⟨v, by simpa using h1, h2⟩
theorem RVs.app : ∀ {vs ws : List V} {ds es : List PyData}, RVs K F vs ds → RVs K F ws es → RVs K F (vs ++ ws) (ds ++ es)
  | _, _, _, _, .nil, s => s
  | _, _, _, _, .cons r t, s => .cons r (RVs.app t s)
theorem RVs.drop' : ∀ {vs : List V} {ds : List PyData} (n : Nat), RVs K F vs ds → RVs K F (vs.drop n) (ds.drop n)
  | _, _, 0, r => r
  | _, _, _ + 1, .nil => .nil
  | _, _, n + 1, .cons _ t => RVs.drop' n t
theorem RVs.take' : ∀ {vs : List V} {ds : List PyData} (n : Nat), RVs K F vs ds → RVs K F (vs.take n) (ds.take n)
  | _, _, 0, _ => .nil
  | _, _, _ + 1, .nil => .nil
  | _, _, n + 1, .cons r t => .cons r (RVs.take' n t)
theorem RVs.one {v : V} {d : PyData} (r : RV K F v d) : RVs K F [v] [d] := .cons r .nil
end
/-- the numbers a pen may hold -/
structure PenInv (cells : List Int) (at_ cur : Int) (b : Nat) : Prop where
  at0 : 0 ≤ at_
  most : at_ + b ≤ 2 ^ 32
  cur0 : 0 ≤ cur
  few : cells.length ≤ 12
abbrev Pn := Option (Addr × Addr)
def PenIs (pn : Pn) (b : Nat) (F H : Hp) : Prop := match pn with
  | none => True
  | some (pa, ca) => F pa = none ∧ F ca = none ∧ pa ≠ ca ∧ ∃ (cells : List Int) (at_ cur : Int), H pa = some (.lst [.ref ca, .int at_, .int cur]) ∧ H ca = some (.lst (cells.map V.int)) ∧ PenInv cells at_ cur b
def NotPen (pn : Pn) (a : Addr) : Prop := ∀ pa ca, pn = some (pa, ca) → a ≠ pa
structure Ok (pn : Pn) (b : Nat) (F H : Hp) : Prop where
  sub : Same F H
  pen : PenIs pn b F H
structure Ext (pn : Pn) (F H F' H' : Hp) : Prop where
  fsub : Same F F'
  keep : ∀ a o, H a = some o → F a = none → NotPen pn a → H' a = some o ∧ F' a = none
section
variable {pn : Pn} {b b1 b2 : Nat} {F H F1 H1 F2 H2 : Hp}
theorem Ext.refl : Ext pn F H F H := ⟨Same.refl _, fun _ _ h q _ => ⟨h, q⟩⟩
theorem Ext.trans (x : Ext pn F H F1 H1) (y : Ext pn F1 H1 F2 H2) : Ext pn F H F2 H2 :=
  ⟨x.fsub.trans y.fsub, fun a o h q n => let ⟨h1, q1⟩ := x.keep a o h q n; y.keep a o h1 q1 n⟩
theorem Ok.free (k : Ok pn b F H) {p : Addr} (h : H p = none) : F p = none := k.sub.free h
theorem same_upd2 {F H : Hp} (s : Same F H) {p : Addr} {o : HO} : Same (upd F p o) (upd H p o) := fun a u e => by
  by_cases h : a = p
  · subst h; rw [upd_same] at e ⊢; exact e
  · rw [upd_ne h] at e ⊢; exact s a u e
theorem same_new {H : Hp} {p : Addr} {o : HO} (h : H p = none) : Same H (upd H p o) := fun a u e => by
  rw [upd_ne (ne_of_none e h)]; exact e
theorem PenIs.new {p : Addr} {o : HO} (k : PenIs pn b F H) (h : H p = none) : PenIs pn b (upd F p o) (upd H p o) := by
  match pn, k with
  | none, _ => trivial
  | some (pa, ca), ⟨f1, f2, ne, cells, at_, cur, h1, h2, i⟩ =>
    have n1 : pa ≠ p := ne_of_none h1 h
    have n2 : ca ≠ p := ne_of_none h2 h
    exact ⟨by rw [upd_ne n1]; exact f1, by rw [upd_ne n2]; exact f2, ne, cells, at_, cur, by rw [upd_ne n1]; exact h1, by rw [upd_ne n2]; exact h2, i⟩
theorem PenIs.own {p : Addr} {o : HO} (k : PenIs pn b F H) (h : H p = none) : PenIs pn b F (upd H p o) := by
  match pn, k with
  | none, _ => trivial
  | some (pa, ca), ⟨f1, f2, ne, cells, at_, cur, h1, h2, i⟩ =>
    have n1 : pa ≠ p := ne_of_none h1 h
    have n2 : ca ≠ p := ne_of_none h2 h
    exact ⟨f1, f2, ne, cells, at_, cur, by rw [upd_ne n1]; exact h1, by rw [upd_ne n2]; exact h2, i⟩
/-- a new settled object -/
theorem Ok.new {p : Addr} {o : HO} (k : Ok pn b F H) (h : H p = none) : Ok pn b (upd F p o) (upd H p o) := ⟨same_upd2 k.sub, k.pen.new h⟩
theorem Ext.new {p : Addr} {o : HO} (k : Ok pn b F H) (h : H p = none) : Ext pn F H (upd F p o) (upd H p o) :=
  ⟨same_new (k.free h), fun a u e q _ => by
    have n : a ≠ p := ne_of_none e h
    rw [upd_ne n, upd_ne n]; exact ⟨e, q⟩⟩
/-- a new object of one's own -/
theorem Ok.own {p : Addr} {o : HO} (k : Ok pn b F H) (h : H p = none) : Ok pn b F (upd H p o) := ⟨k.sub.trans (same_new h), k.pen.own h⟩
theorem Ext.own {p : Addr} {o : HO} (h : H p = none) : Ext pn F H F (upd H p o) :=
  ⟨Same.refl _, fun a u e q _ => by rw [upd_ne (ne_of_none e h)]; exact ⟨e, q⟩⟩
/-- an own object is settled -/
theorem Ok.settle {p : Addr} {o : HO} (k : Ok pn b F H) (h : H p = some o) (f : F p = none) (n : NotPen pn p) (nc : ∀ pa ca, pn = some (pa, ca) → p ≠ ca) : Ok pn b (upd F p o) H := by
  refine ⟨fun a u e => ?_, ?_⟩
  · by_cases q : a = p
    · subst q; rw [upd_same] at e; cases e; exact h
    · rw [upd_ne q] at e; exact k.sub a u e
  · have kp := k.pen
    match pn, kp, n, nc with
    | none, _, _, _ => trivial
    | some (pa, ca), ⟨f1, f2, ne, cells, at_, cur, h1, h2, i⟩, n, nc =>
      exact ⟨by rw [upd_ne (n pa ca rfl).symm]; exact f1, by rw [upd_ne (nc pa ca rfl).symm]; exact f2, ne, cells, at_, cur, h1, h2, i⟩
theorem PenIs.le {b' : Nat} (k : PenIs pn b F H) (h : b' ≤ b) : PenIs pn b' F H := by
  match pn, k with
  | none, _ => trivial
  | some (pa, ca), ⟨f1, f2, ne, cells, at_, cur, h1, h2, i⟩ =>
    exact ⟨f1, f2, ne, cells, at_, cur, h1, h2, i.at0, by have := i.most; omega, i.cur0, i.few⟩
end
inductive Sl where
  | d (x : PyData)
  | l (xs : List PyData)
  | r (xs : List PyData)
  | p
  | k (kvs : List (Str × PyData))
def Sl.isOwn : Sl → Bool
  | .l _ => true
  | .k _ => true
  | _ => false
/-- a dict of one's own, its keys texts -/
inductive KVs (K : PySem.W.Frag) (F : Hp) : List (Key × V) → List (Str × PyData) → Prop
  | nil : KVs K F [] []
  | cons {x : Str} {v : V} {d : PyData} {vs : List (Key × V)} {ds : List (Str × PyData)} : RV K F v d → KVs K F vs ds → KVs K F ((.inr x, v) :: vs) ((x, d) :: ds)
theorem KVs.mono {K : PySem.W.Frag} {F G : Hp} (e : Same F G) : ∀ {vs : List (Key × V)} {ds : List (Str × PyData)}, KVs K F vs ds → KVs K G vs ds
  | _, _, .nil => .nil
  | _, _, .cons r t => .cons (r.mono e) (KVs.mono e t)
def OwnK (K : PySem.W.Frag) (pn : Pn) (F H : Hp) (v : V) (xs : List (Str × PyData)) : Prop :=
  ∃ a vs, v = .ref a ∧ F a = none ∧ NotPen pn a ∧ (∀ pa ca, pn = some (pa, ca) → a ≠ ca) ∧ H a = some (.dK vs) ∧ KVs K F vs xs
abbrev En := List (Option Sl)
/-- a list of one's own, not settled -/
def OwnL (K : PySem.W.Frag) (pn : Pn) (F H : Hp) (v : V) (xs : List PyData) : Prop :=
  ∃ a vs, v = .ref a ∧ F a = none ∧ NotPen pn a ∧ (∀ pa ca, pn = some (pa, ca) → a ≠ ca) ∧ H a = some (.lst vs) ∧ RVs K F vs xs
def SlIs (K : PySem.W.Frag) (pn : Pn) (F H : Hp) (v : V) : Sl → Prop
  | .d x => RV K F v x
  | .l xs => OwnL K pn F H v xs
  | .r xs => OwnL K pn F H v xs
  | .p => ∃ pa ca, pn = some (pa, ca) ∧ v = .ref pa
  | .k xs => OwnK K pn F H v xs
/-- a datum that is read: settled, or a list of one's own -/
def BV (K : PySem.W.Frag) (pn : Pn) (F H : Hp) (v : V) (d : PyData) : Prop := RV K F v d ∨ ∃ xs, d = .list xs ∧ OwnL K pn F H v xs
section
variable {K : PySem.W.Frag} {pn : Pn} {b b' : Nat} {F H F' H' : Hp} {v : V}
theorem OwnL.ext {xs : List PyData} (h : OwnL K pn F H v xs) (e : Ext pn F H F' H') : OwnL K pn F' H' v xs := by
  obtain ⟨a, vs, rfl, f, n, nc, ha, r⟩ := h
  obtain ⟨h1, f1⟩ := e.keep a _ ha f n
  exact ⟨a, vs, rfl, f1, n, nc, h1, r.mono e.fsub⟩
theorem OwnK.ext {xs : List (Str × PyData)} (h : OwnK K pn F H v xs) (e : Ext pn F H F' H') : OwnK K pn F' H' v xs := by
  obtain ⟨a, vs, rfl, f, n, nc, ha, r⟩ := h
  obtain ⟨h1, f1⟩ := e.keep a _ ha f n
  exact ⟨a, vs, rfl, f1, n, nc, h1, r.mono e.fsub⟩
theorem SlIs.ext {s : Sl} (h : SlIs K pn F H v s) (e : Ext pn F H F' H') : SlIs K pn F' H' v s := by
  match s, h with
  | .d x, h => exact RV.mono e.fsub h
  | .l xs, h => exact OwnL.ext h e
  | .r xs, h => exact OwnL.ext h e
  | .p, h => exact h
  | .k xs, h => exact OwnK.ext h e
theorem BV.ext {d : PyData} (h : BV K pn F H v d) (e : Ext pn F H F' H') : BV K pn F' H' v d := by
  rcases h with h | ⟨xs, rfl, h⟩
  · exact .inl (h.mono e.fsub)
  · exact .inr ⟨xs, rfl, h.ext e⟩
theorem BV.list {ds : List PyData} (h : BV K pn F H v (.list ds)) (k : Ok pn b F H) : ∃ a vs, v = .ref a ∧ H a = some (.lst vs) ∧ RVs K F vs ds := by
  rcases h with h | ⟨xs, e, a, vs, rfl, _, _, _, h, r⟩
  · cases h with
    | lst h r => exact ⟨_, _, rfl, k.sub _ _ h, r⟩
  · cases e; exact ⟨a, vs, rfl, h, r⟩
theorem BV.tup {ds : List PyData} (h : BV K pn F H v (.tuple ds)) (k : Ok pn b F H) : ∃ a vs, v = .ref a ∧ SqT K H a vs ∧ RVs K F vs ds := by
  rcases h with h | ⟨xs, e, _⟩
  · cases h with
    | tup h r => exact ⟨_, _, rfl, Same.tup k.sub h.sq, r⟩
  · cases e
theorem BV.int {i : Int} (h : BV K pn F H v (.int i)) : v = .int i := by
  rcases h with h | ⟨xs, e, _⟩
  · cases h; rfl
  · cases e
theorem BV.str {i : Str} (h : BV K pn F H v (.str i)) : v = .str i := by
  rcases h with h | ⟨xs, e, _⟩
  · cases h; rfl
  · cases e
theorem BV.bool {i : Bool} (h : BV K pn F H v (.bool i)) : v = .bl i := by
  rcases h with h | ⟨xs, e, _⟩
  · cases h; rfl
  · cases e
theorem BV.none' (h : BV K pn F H v .none) : v = .non := by
  rcases h with h | ⟨xs, e, _⟩
  · cases h; rfl
  · cases e
end
theorem SlIs.ownF {K : PySem.W.Frag} {pn : Pn} {F H : Hp} {a : Addr} : ∀ {s : Sl}, s.isOwn = true → SlIs K pn F H (.ref a) s → F a = none
  | .l _, _, ⟨_, _, e, f, _⟩ => by cases e; exact f
  | .k _, _, ⟨_, _, e, f, _⟩ => by cases e; exact f
structure Rep (K : PySem.W.Frag) (pn : Pn) (F H : Hp) (σ : L2.St) (env : En) (b : Nat) : Prop where
  ok : Ok pn b F H
  len : σ.length = env.length
  slot : ∀ (i : Nat) (s : Sl), env[i]? = some (some s) → ∃ v, σ[i]? = some (some v) ∧ SlIs K pn F H v s
  apart : ∀ (i j : Nat) (a : Addr) (xs ys : List PyData), i ≠ j → env[i]? = some (some (Sl.l xs)) → (env[j]? = some (some (Sl.l ys)) ∨ env[j]? = some (some (Sl.r ys))) → σ[i]? = some (some (V.ref a)) → σ[j]? ≠ some (some (V.ref a))
theorem Rep.ext {K : PySem.W.Frag} {pn : Pn} {F H F' H' : Hp} {σ : L2.St} {env : En} {b b' : Nat} (r : Rep K pn F H σ env b) (k : Ok pn b' F' H') (e : Ext pn F H F' H') : Rep K pn F' H' σ env b' :=
  ⟨k, r.len, fun i s h => let ⟨v, h1, h2⟩ := r.slot i s h; ⟨v, h1, h2.ext e⟩, r.apart⟩
abbrev WE := En → Nat → (PyData → Nat → Prop) → Prop
abbrev WT := En → Nat → (Bool → Nat → Prop) → Prop
abbrev WF := En → Nat → (List PyData → Nat → Prop) → Prop
abbrev WA := En → Nat → (List Sl → Nat → Prop) → Prop
abbrev WD := List Sl → Nat → (PyData → Nat → Prop) → Prop
structure PEnds where
  nx : En → Nat → Prop
  rt : PyData → Nat → Prop
  bk : En → Nat → Prop := fun _ _ => False
  ct : En → Nat → Prop := fun _ _ => False
  rl : List PyData → Nat → Prop := fun _ _ => False
abbrev WS := PEnds → En → Nat → Prop
/-- a value, settled -/
def lE (K : PySem.W.Frag) (t : WE) : TE := fun σ H Q => ∃ pn F env b P, Rep K pn F H σ env b ∧ t env b P ∧
  ∀ v d F' H' b', Ok pn b' F' H' → Ext pn F H F' H' → RV K F' v d → P d b' → Q v H'
/-- a value to be read only -/
def lB (K : PySem.W.Frag) (t : WE) : TE := fun σ H Q => ∃ pn F env b P, Rep K pn F H σ env b ∧ t env b P ∧
  ∀ v d F' H' b', Ok pn b' F' H' → Ext pn F H F' H' → BV K pn F' H' v d → P d b' → Q v H'
/-- a new list -/
def lF (K : PySem.W.Frag) (t : WF) : TE := fun σ H Q => ∃ pn F env b P, Rep K pn F H σ env b ∧ t env b P ∧
  ∀ v d F' H' b', Ok pn b' F' H' → Ext pn F H F' H' → OwnL K pn F' H' v d → (∀ a, v = .ref a → H a = none) → P d b' → Q v H'
def lT (K : PySem.W.Frag) (t : WT) : TT := fun σ H Q => ∃ pn F env b P, Rep K pn F H σ env b ∧ t env b P ∧
  ∀ k F' H' b', Ok pn b' F' H' → Ext pn F H F' H' → P k b' → Q k H'
def ArgsAre (K : PySem.W.Frag) (pn : Pn) (F H : Hp) : List V → List Sl → Prop
  | [], [] => True
  | v :: vs, s :: ss => SlIs K pn F H v s ∧ s.isOwn = false ∧ ArgsAre K pn F H vs ss
  | _, _ => False
theorem ArgsAre.ext {K : PySem.W.Frag} {pn : Pn} {F H F' H' : Hp} (e : Ext pn F H F' H') : ∀ {vs : List V} {ss : List Sl}, ArgsAre K pn F H vs ss → ArgsAre K pn F' H' vs ss
  | [], [], _ => trivial
  | _ :: _, _ :: _, ⟨h, n, t⟩ => ⟨h.ext e, n, ArgsAre.ext e t⟩
  | [], _ :: _, h => h.elim
  | _ :: _, [], h => h.elim
theorem ArgsAre.len {K : PySem.W.Frag} {pn : Pn} {F H : Hp} : ∀ {vs : List V} {ss : List Sl}, ArgsAre K pn F H vs ss → vs.length = ss.length
  | [], [], _ => rfl
  | _ :: _, _ :: _, ⟨_, _, t⟩ => congrArg (· + 1) (ArgsAre.len t)
  | [], _ :: _, h => h.elim
  | _ :: _, [], h => h.elim
def lA (K : PySem.W.Frag) (t : WA) : TA := fun σ H Q => ∃ pn F env b P, Rep K pn F H σ env b ∧ t env b P ∧
  ∀ vs ss F' H' b', Ok pn b' F' H' → Ext pn F H F' H' → ArgsAre K pn F' H' vs ss → P ss b' → Q vs H'
structure RepS (K : PySem.W.Frag) (pn : Pn) (F0 H0 F H : Hp) (σ : L2.St) (env : En) (b : Nat) : Prop where
  rep : Rep K pn F H σ env b
  ext : Ext pn F0 H0 F H
  own : ∀ (i : Nat) (a : Addr) (s : Sl), s.isOwn = true → env[i]? = some (some s) → σ[i]? = some (some (V.ref a)) → H0 a = none
/-- a statement -/
def lS (K : PySem.W.Frag) (t : WS) : TS := fun D σ H => ∃ pn F0 H0 F env b PD, RepS K pn F0 H0 F H σ env b ∧ t PD env b ∧
  (∀ σ' F' H' env' b', RepS K pn F0 H0 F' H' σ' env' b' → (PD.nx env' b' → D.nx σ' H') ∧ (PD.bk env' b' → D.bk σ' H') ∧ (PD.ct env' b' → D.ct σ' H')) ∧
  (∀ v d F' H' b', Ok pn b' F' H' → Ext pn F0 H0 F' H' → RV K F' v d → PD.rt d b' → D.rt v H') ∧
  (∀ v ds F' H' b', Ok pn b' F' H' → Ext pn F0 H0 F' H' → OwnL K pn F' H' v ds → (∀ a, v = .ref a → H0 a = none) → PD.rl ds b' → D.rt v H')
/-- a def's promise by what it does to data -/
def spW (K : PySem.W.Frag) (f : WD) : Sp := fun vs H Q _ => ∃ pn F ss b P, Ok pn b F H ∧ ArgsAre K pn F H vs ss ∧ f ss b P ∧
  ∀ v d F' H' b', Ok pn b' F' H' → Ext pn F H F' H' → RV K F' v d → P d b' → Q v H'
section
variable {X : Cx} {e : Expr} {t u : TE}
theorem PE.imp (h : PE X e t) (i : ∀ σ H Q, u σ H Q → t σ H Q) : PE X e u := ⟨fun pins s σ H Q I q => h.run pins s σ H Q I (i _ _ _ q)⟩
theorem PT.imp {t u : TT} (h : PT X e t) (i : ∀ σ H Q, u σ H Q → t σ H Q) : PT X e u := ⟨fun pins s σ H Q I q => h.run pins s σ H Q I (i _ _ _ q)⟩
theorem PA.imp {es : List Expr} {t u : TA} (h : PA X es t) (i : ∀ σ H Q, u σ H Q → t σ H Q) : PA X es u := ⟨fun pos pins s σ H Q I q => h.run pos pins s σ H Q I (i _ _ _ q)⟩
theorem PS.imp {st : Stmt} {t u : TS} (h : PS X st t) (i : ∀ D σ H, u D σ H → t D σ H) : PS X st u := ⟨fun pins s σ H D I q => h.run pins s σ H D I (i _ _ _ q)⟩
theorem PSs.imp {st : List Stmt} {t u : TS} (h : PSs X st t) (i : ∀ D σ H, u D σ H → t D σ H) : PSs X st u := ⟨fun pins s σ H D I q => h.run pins s σ H D I (i _ _ _ q)⟩
end
abbrev EE (X : Cx) (e : Expr) (t : WE) : Prop := PE X e (lE X.K t)
abbrev EB (X : Cx) (e : Expr) (t : WE) : Prop := PE X e (lB X.K t)
abbrev EF (X : Cx) (e : Expr) (t : WF) : Prop := PE X e (lF X.K t)
abbrev ET (X : Cx) (e : Expr) (t : WT) : Prop := PT X e (lT X.K t)
abbrev EA (X : Cx) (es : List Expr) (t : WA) : Prop := PA X es (lA X.K t)
abbrev SS (X : Cx) (st : Stmt) (t : WS) : Prop := PS X st (lS X.K t)
abbrev SB (X : Cx) (st : List Stmt) (t : WS) : Prop := PSs X st (lS X.K t)
section
variable {X : Cx} {e : Expr}
theorem EE.eb {t : WE} (h : EE X e t) : EB X e t := PE.imp h fun σ H Q ⟨pn, F, env, b, P, r, q, k⟩ =>
  ⟨pn, F, env, b, P, r, q, fun v d F' H' b' o x rv p => k v d F' H' b' o x (.inl rv) p⟩
/-- a new list, settled at once -/
def fz (t : WF) : WE := fun env b P => t env b fun ds b' => P (.list ds) b'
theorem EF.ee {t : WF} (h : EF X e t) : EE X e (fz t) := PE.imp h fun σ H Q ⟨pn, F, env, b, P, r, q, k⟩ => by
  refine ⟨pn, F, env, b, _, r, q, fun v d F' H' b' o x ow nw p => ?_⟩
  obtain ⟨a, vs, rfl, f, n, nc, ha, rv⟩ := ow
  refine k (.ref a) (.list d) (upd F' a (.lst vs)) H' b' (o.settle ha f n nc) ⟨x.fsub.trans (same_new f), fun c u hc fc ncp => ?_⟩ (.lst upd_same (rv.mono (same_new f))) p
  obtain ⟨h1, f1⟩ := x.keep c u hc fc ncp
  have ne : c ≠ a := fun z => by rw [z, nw a rfl] at hc; cases hc
  exact ⟨h1, by rw [upd_ne ne]; exact f1⟩
end
end Pu
namespace Pu
open PySem PySem.Spec PyProof.Rows L2
/-- .. a settled value, the pen untouched -/
abbrev Go (K : PySem.W.Frag) (pn : Pn) (b : Nat) (F H : Hp) (P : PyData → Prop) (Q : VK) : Prop :=
  ∀ (w : V) (z : PyData) (F' H' : Hp), Ok pn b F' H' → Ext pn F H F' H' → RV K F' w z → P z → Q w H'
abbrev GoL (K : PySem.W.Frag) (pn : Pn) (b : Nat) (F H : Hp) (P : List PyData → Prop) (Q : VK) : Prop :=
  ∀ (w : V) (z : List PyData) (F' H' : Hp), Ok pn b F' H' → Ext pn F H F' H' → OwnL K pn F' H' w z → (∀ a, w = .ref a → H a = none) → P z → Q w H'
section
variable {K : PySem.W.Frag} {pn : Pn} {b : Nat} {F H : Hp} {P : PyData → Prop} {Q : VK}
theorem Go.tup (k : Go K pn b F H P Q) (o : Ok pn b F H) {vs : List V} {ds : List PyData} (r : RVs K F vs ds) (p : P (.tuple ds)) : NewT H Q vs := fun q ob hq hd =>
  k _ _ _ _ (o.new hq) (.new o hq) (.tup (.inl ⟨ob, upd_same, hd⟩) (r.mono (same_new (o.free hq)))) p
theorem Go.lst (k : Go K pn b F H P Q) (o : Ok pn b F H) {vs : List V} {ds : List PyData} (r : RVs K F vs ds) (p : P (.list ds)) : ∀ q, H q = none → Q (.ref q) (upd H q (.lst vs)) := fun q hq =>
  k _ _ _ _ (o.new hq) (.new o hq) (.lst upd_same (r.mono (same_new (o.free hq)))) p
theorem GoL.lst {P : List PyData → Prop} (k : GoL K pn b F H P Q) (o : Ok pn b F H) {vs : List V} {ds : List PyData} (r : RVs K F vs ds) (p : P ds) : ∀ q, H q = none → Q (.ref q) (upd H q (.lst vs)) := fun q hq => by
  refine k _ _ _ _ (o.own hq) (.own hq) ⟨q, vs, rfl, o.free hq, fun pa ca e z => ?_, fun pa ca e z => ?_, upd_same, r⟩ (fun a e => by cases e; exact hq) p
  · subst e; obtain ⟨_, _, _, _, _, _, h, _⟩ := o.pen; rw [← z, hq] at h; cases h
  · subst e; obtain ⟨_, _, _, _, _, _, _, h, _⟩ := o.pen; rw [← z, hq] at h; cases h
end
theorem Ext.back {pn : Pn} {b b' : Nat} {F H F' H' : Hp} (x : Ext pn F H F' H') (o : Ok pn b F H) (o' : Ok pn b' F' H') {a : Addr} (h : H' a = none) : H a = none := by
  cases e : H a with
  | none => rfl
  | some u =>
    cases f : F a with
    | some z =>
      have := o'.sub a z (x.fsub a z f)
      rw [h] at this; cases this
    | none =>
      by_cases n : NotPen pn a
      · have := (x.keep a u e f n).1
        rw [h] at this; cases this
      · exfalso
        apply n
        intro pa ca q z
        subst q
        obtain ⟨_, _, _, _, _, _, h1, _⟩ := o'.pen
        rw [← z, h] at h1; cases h1
abbrev P2 := PyData → PyData → (PyData → Prop) → Prop
def Op2 (K : PySem.W.Frag) (r : R2) (p : P2) : Prop :=
  ∀ (pn : Pn) (b : Nat) (F H : Hp) (v u : V) (x y : PyData) (P : PyData → Prop) (Q : VK), Ok pn b F H → BV K pn F H v x → BV K pn F H u y → p x y P → Go K pn b F H P Q → r v u H Q
def wOp (p : P2) (ta tb : WE) : WE := fun env b P => ta env b fun x b1 => tb env b1 fun y b2 => p x y fun z => P z b2
section
variable {K : PySem.W.Frag} {r : R2} {p : P2} {ta tb : WE}
theorem op2 (o : Op2 K r p) {σ : L2.St} {H : Hp} {Q : VK} (h : lE K (wOp p ta tb) σ H Q) : tOp r (lB K ta) (lB K tb) σ H Q := by
  obtain ⟨pn, F, env, b, P, rep, t, k⟩ := h
  refine ⟨pn, F, env, b, _, rep, t, fun v x F1 H1 b1 o1 e1 bv1 t1 => ?_⟩
  refine ⟨pn, F1, env, b1, _, rep.ext o1 e1, t1, fun u y F2 H2 b2 o2 e2 bv2 t2 => ?_⟩
  exact o pn b2 F2 H2 v u x y _ Q o2 (bv1.ext e2) bv2 t2 fun w z F' H' o3 e3 rv q => k w z F' H' b2 o3 (e1.trans (e2.trans e3)) rv q
end
section
variable {X : Cx} {a c : Expr} {pos : Pos} {ta tb : WE} {r : R2} {p : P2}
theorem e_op {op : Operator} (ho : OpR X (binaryOp op) r) (o : Op2 X.K r p) (ha : EB X a ta) (hb : EB X c tb) : EE X (.BinOp a op c pos) (wOp p ta tb) := PE.imp (pe_op ho ha hb) fun _ _ _ => op2 o
theorem e_cmp {op : CmpOp} (ho : OpR X (compareOp op) r) (o : Op2 X.K r p) (ha : EB X a ta) (hb : EB X c tb) (hm : behindInMarks op c = false) : EE X (.Compare a [op] [c] pos) (wOp p ta tb) := PE.imp (pe_cmpR ho ha hb hm) fun _ _ _ => op2 o
/-- a bool as a test -/
def wTt (t : WE) : WT := fun env b P => t env b fun d b' => match d with | .bool k => P k b' | _ => False
theorem tt_of {K : PySem.W.Frag} {t : WE} {σ : L2.St} {H : Hp} {Q : Bool → Hp → Prop} (h : lT K (wTt t) σ H Q) : lE K t σ H fun x H' => ∃ k, x = .bl k ∧ Q k H' := by
  obtain ⟨pn, F, env, b, P, rep, t, k⟩ := h
  refine ⟨pn, F, env, b, _, rep, t, fun v d F' H' b' o e rv q => ?_⟩
  cases rv with
  | bl c => exact ⟨c, rfl, k c F' H' b' o e q⟩
  | _ => exact q.elim
theorem t_cmp {op : CmpOp} (ho : OpR X (compareOp op) r) (o : Op2 X.K r p) (ha : EB X a ta) (hb : EB X c tb) (hm : behindInMarks op c = false) : ET X (.Compare a [op] [c] pos) (wTt (wOp p ta tb)) := PT.imp (pt_cmpR ho ha hb hm) fun _ _ _ h => op2 o (tt_of h)
end
def pAdd : P2
  | .int i, .int j, P => P (.int (i + j))
  | .str s, .str t, P => s.length + t.length ≤ sizeLine ∧ P (.str (s ++ t))
  | .tuple xs, .tuple ys, P => xs.length + ys.length ≤ sizeLine ∧ P (.tuple (xs ++ ys))
  | .list xs, .list ys, P => xs.length + ys.length ≤ sizeLine ∧ P (.list (xs ++ ys))
  | _, _, _ => False
def rAddA (K : PySem.W.Frag) : R2 := fun x y H Q => (rI0 fun i j => .int (i + j)) x y H Q ∨ (∃ i j, x = .str i ∧ y = .str j ∧ i.length + j.length ≤ sizeLine ∧ Q (.str (i ++ j)) H) ∨ rCatP K x y H Q ∨ rCat x y H Q
theorem opr_add {X : Cx} : OpR X (binaryOp .Add) (rAddA X.K) := OpR.or op_add (OpR.or op_add_str (OpR.or op_catP op_cat))
theorem o_add {K : PySem.W.Frag} : Op2 K (rAddA K) pAdd := by
  intro pn b F H v u x y P Q o bv bu q k
  match x, y, q with
  | .int i, .int j, q => exact .inl ⟨i, j, bv.int, bu.int, k _ _ F H o .refl (.int _) q⟩
  | .str s, .str t, ⟨z, q⟩ => exact .inr (.inl ⟨s, t, bv.str, bu.str, z, k _ _ F H o .refl (.str _) q⟩)
  | .tuple xs, .tuple ys, ⟨z, q⟩ =>
    obtain ⟨a, vs, rfl, h1, r1⟩ := bv.tup o
    obtain ⟨c, us, rfl, h2, r2⟩ := bu.tup o
    refine .inr (.inr (.inl ⟨a, c, vs, us, rfl, rfl, h1, h2, by rw [r1.len, r2.len]; exact z, fun e => ?_, fun _ e => ?_, fun _ _ => k.tup o (r1.app r2) q⟩))
    · subst e
      cases r1
      rcases bu with bu | ⟨_, e, _⟩
      · exact k _ _ F H o .refl bu q
      · cases e
    · subst e
      cases r2
      rcases bv with bv | ⟨_, e, _⟩
      · exact k _ _ F H o .refl bv (by simpa using q)
      · cases e
  | .list xs, .list ys, ⟨z, q⟩ =>
    obtain ⟨a, vs, rfl, h1, r1⟩ := bv.list o
    obtain ⟨c, us, rfl, h2, r2⟩ := bu.list o
    exact .inr (.inr (.inr ⟨a, c, vs, us, rfl, rfl, h1, h2, by rw [r1.len, r2.len]; exact z, k.lst o (r1.app r2) q⟩))
def pI (C : Int → Int → Prop) (g : Int → Int → PyData) : P2
  | .int i, .int j, P => C i j ∧ P (g i j)
  | _, _, _ => False
theorem o_int {K : PySem.W.Frag} {C : Int → Int → Prop} {g : Int → Int → Int} : Op2 K (rI C fun i j => .int (g i j)) (pI C fun i j => .int (g i j)) := by
  intro pn b F H v u x y P Q o bv bu q k
  match x, y, q with
  | .int i, .int j, ⟨c, q⟩ => exact ⟨i, j, bv.int, bu.int, c, k _ _ F H o .refl (.int _) q⟩
theorem o_int0 {K : PySem.W.Frag} {g : Int → Int → Int} : Op2 K (rI0 fun i j => .int (g i j)) (pI (fun _ _ => True) fun i j => .int (g i j)) := by
  intro pn b F H v u x y P Q o bv bu q k
  match x, y, q with
  | .int i, .int j, ⟨c, q⟩ => exact ⟨i, j, bv.int, bu.int, k _ _ F H o .refl (.int _) q⟩
theorem o_intB {K : PySem.W.Frag} {g : Int → Int → Bool} : Op2 K (rI0 fun i j => .bl (g i j)) (pI (fun _ _ => True) fun i j => .bool (g i j)) := by
  intro pn b F H v u x y P Q o bv bu q k
  match x, y, q with
  | .int i, .int j, ⟨c, q⟩ => exact ⟨i, j, bv.int, bu.int, k _ _ F H o .refl (.bl _) q⟩
/-- list * int, int * int -/
def pMul : P2
  | .int i, .int j, P => CMul i j ∧ P (.int (i * j))
  | .list xs, .int k, P => -(2 ^ 63) ≤ k ∧ k < 2 ^ 63 ∧ xs.length * k.toNat ≤ sizeLine ∧ P (.list (List.replicate k.toNat xs).flatten)
  | _, _, _ => False
theorem RVs.rep {K : PySem.W.Frag} {F : Hp} {vs : List V} {ds : List PyData} (r : RVs K F vs ds) : ∀ n, RVs K F (List.replicate n vs).flatten (List.replicate n ds).flatten
  | 0 => .nil
  | n + 1 => by rw [List.replicate_succ, List.replicate_succ, List.flatten_cons, List.flatten_cons]; exact r.app (RVs.rep r n)
def rMulA : R2 := fun x y H Q => (rI CMul fun i j => .int (i * j)) x y H Q ∨ rRep x y H Q
theorem opr_mul {X : Cx} : OpR X (binaryOp .Mult) rMulA := OpR.or op_mul op_rep
mutual
theorem RV.dp {K : PySem.W.Frag} {F H : Hp} (s : Same F H) : ∀ {v : V} {d : PyData}, RV K F v d → d.canLay0 = true → Dp K H v d
  | _, _, .non, _ => .non
  | _, _, .bl b, _ => .bl b
  | _, _, .int i, _ => .int i
  | _, _, .str x, _ => .str x
  | _, _, .lst h r, c => .lst (SqL.of (s _ _ h)) (RVs.dp s r (by simpa [PyData.canLay0] using c))
  | _, _, .tup h r, c => .tup (Same.tup s h.sq) (RVs.dp s r (by simpa [PyData.canLay0] using c))
  | _, _, .dct h, c => by simp [PyData.canLay0] at c
theorem RVs.dp {K : PySem.W.Frag} {F H : Hp} (s : Same F H) : ∀ {vs : List V} {ds : List PyData}, RVs K F vs ds → PyData.canLayAll0 ds = true → DpAll K H vs ds
  | _, _, .nil, _ => .nil
  | _, _, .cons (d := d) (ds := ds) r t, c => by
    have c' : d.canLay0 = true ∧ PyData.canLayAll0 ds = true := by simpa [PyData.canLayAll0] using c
    exact .cons (RV.dp s r c'.1) (RVs.dp s t c'.2)
end
theorem BV.dp {K : PySem.W.Frag} {pn : Pn} {b : Nat} {F H : Hp} {v : V} {d : PyData} (h : BV K pn F H v d) (o : Ok pn b F H) (c : d.canLay0 = true) : Dp K H v d := by
  rcases h with h | ⟨xs, rfl, a, vs, rfl, _, _, _, h, r⟩
  · exact h.dp o.sub c
  · exact .lst (SqL.of h) (r.dp o.sub (by simpa [PyData.canLay0] using c))
def pNe : P2 := fun x y P => SeqAt.shaped x = true ∧ SeqAt.shaped y = true ∧ P (.bool (!PyData.eqv x y))
theorem o_ne {K : PySem.W.Frag} : Op2 K (rNeD K) pNe := by
  intro pn b F H v u x y P Q o bv bu ⟨s1, s2, q⟩ k
  exact ⟨x, y, bv.dp o (SeqAt.canLay_of_shaped s1), bu.dp o (SeqAt.canLay_of_shaped s2), s1, s2, k _ _ F H o .refl (.bl _) q⟩
/-- is None, is True -/
def isNon : PyData → Bool
  | .none => true
  | _ => false
def pIs (neg : Bool) : P2
  | x, .none, P => P (.bool (neg ^^ isNon x))
  | .bool i, .bool j, P => P (.bool (neg ^^ decide (i = j)))
  | _, _, _ => False
def rIsA : R2 := fun x y H Q => (y = .non ∧ Q (.bl (decide (x = .non))) H) ∨ rIsB x y H Q
def rNsA : R2 := fun x y H Q => (y = .non ∧ Q (.bl (!decide (x = .non))) H) ∨ rNotB x y H Q
theorem opr_is {X : Cx} : OpR X (compareOp .Is) rIsA := OpR.or op_isN op_isBl
theorem opr_ns {X : Cx} : OpR X (compareOp .IsNot) rNsA := OpR.or op_notN op_notBl
theorem BV.non_iff {K : PySem.W.Frag} {pn : Pn} {F H : Hp} {v : V} {d : PyData} (h : BV K pn F H v d) : decide (v = .non) = isNon d := by
  rcases h with h | ⟨xs, rfl, a, vs, rfl, _⟩
  · cases h <;> rfl
  · rfl
theorem o_is {K : PySem.W.Frag} : Op2 K rIsA (pIs false) := by
  intro pn b F H v u x y P Q o bv bu q k
  unfold pIs at q
  split at q
  · exact .inl ⟨bu.none', k _ _ F H o .refl (.bl _) (by rw [bv.non_iff]; simpa using q)⟩
  · exact .inr ⟨_, _, bv.bool, bu.bool, k _ _ F H o .refl (.bl _) (by simpa using q)⟩
  · exact q.elim
theorem o_ns {K : PySem.W.Frag} : Op2 K rNsA (pIs true) := by
  intro pn b F H v u x y P Q o bv bu q k
  unfold pIs at q
  split at q
  · exact .inl ⟨bu.none', k _ _ F H o .refl (.bl _) (by rw [bv.non_iff]; simpa using q)⟩
  · exact .inr ⟨_, _, bv.bool, bu.bool, k _ _ F H o .refl (.bl _) (by simpa using q)⟩
  · exact q.elim
/-- x[i] -/
def pIx : P2
  | .list xs, .int i, P => match atI xs i with | some v => P v | none => False
  | .tuple xs, .int i, P => match atI xs i with | some v => P v | none => False
  | .str z, .int i, P => z.length ≤ sizeLine ∧ match atI z.cps.toList i with | some c => P (.str ⟨#[c]⟩) | none => False
  | _, _, _ => False
theorem RVs.atI' {K : PySem.W.Frag} {F : Hp} {vs : List V} {ds : List PyData} {i : Int} {d : PyData} (r : RVs K F vs ds) (h : atI ds i = some d) : ∃ v, atI vs i = some v ∧ RV K F v d := by
  unfold atI at h ⊢
  rw [r.len]
  cases e : ixN ds.length i with
  | none => rw [e] at h; cases h
  | some j => rw [e] at h; exact r.at' h
theorem o_ix {K : PySem.W.Frag} : Op2 K (rIx K) pIx := by
  intro pn b F H v u x y P Q o bv bu q k
  unfold pIx at q
  split at q
  · split at q
    · rename_i h
      obtain ⟨a, vs, rfl, h1, r1⟩ := bv.list o
      obtain ⟨w, hw, rw_⟩ := r1.atI' h
      exact .inl ⟨a, vs, _, w, rfl, bu.int, SqL.of h1, hw, k _ _ F H o .refl rw_ q⟩
    · exact q.elim
  · split at q
    · rename_i h
      obtain ⟨a, vs, rfl, h1, r1⟩ := bv.tup o
      obtain ⟨w, hw, rw_⟩ := r1.atI' h
      exact .inr (.inl ⟨a, vs, _, w, rfl, bu.int, h1, hw, k _ _ F H o .refl rw_ q⟩)
    · exact q.elim
  · obtain ⟨z, q⟩ := q
    split at q
    · rename_i h
      exact .inr (.inr ⟨_, _, _, bv.str, bu.int, z, h, k _ _ F H o .refl (.str _) q⟩)
    · exact q.elim
  · exact q.elim
section
variable {X : Cx} {a c : Expr} {pos : Pos} {ta tb : WE}
theorem e_ix (ha : EB X a ta) (hb : EB X c tb) (hs : PlainIx c) : EE X (.Subscript a c pos) (wOp pIx ta tb) := PE.imp (pe_ix ix_seq ha hb hs) fun _ _ _ => op2 o_ix
end
abbrev P1 := PyData → (PyData → Prop) → Prop
def Cl1 (K : PySem.W.Frag) (r : List V → Hp → VK → Prop) (p : P1) : Prop :=
  ∀ (pn : Pn) (b : Nat) (F H : Hp) (v : V) (x : PyData) (P : PyData → Prop) (Q : VK), Ok pn b F H → BV K pn F H v x → p x P → Go K pn b F H P Q → r [v] H Q
def w1 (p : P1) (ta : WE) : WE := fun env b P => ta env b fun x b1 => p x fun z => P z b1
def w1L (p : PyData → (List PyData → Prop) → Prop) (ta : WE) : WF := fun env b P => ta env b fun x b1 => p x fun z => P z b1
section
variable {X : Cx} {e : Expr} {ta : WE} {x : Str} {p pos : Pos} {id T : String} {r : List V → Hp → VK → Prop} {q : P1}
theorem cl1 {K : PySem.W.Frag} (c : Cl1 K r q) {σ : L2.St} {H : Hp} {Q : VK} (h : lE K (w1 q ta) σ H Q) : tCB r (tCons (lB K ta) tNil) σ H Q := by
  obtain ⟨pn, F, env, b, P, rep, t, k⟩ := h
  exact ⟨pn, F, env, b, _, rep, t, fun v x F1 H1 b1 o1 e1 bv t1 => c pn b1 F1 H1 v x _ _ o1 bv t1 fun w z F' H' o3 e3 rv pz => k w z F' H' b1 o3 (e1.trans e3) rv pz⟩
theorem e_call1 (hc : CallR X (.builtin id) r) (c : Cl1 X.K r q) (hg : Gl X x) (hm : X.mg x = none) (hv : bootBuiltins x = some (.builtin id)) (ha : EB X e ta) (hn : x ≠ "__name__" := by decide) (hdb : (x == ("__debug__" : Str)) = false := by decide)
    (he : starEach [e] X.env = (false, eval e X.env) :: starEach [] X.env := by rfl) : EE X (.Call (.Name x p) [e] [] pos) (w1 q ta) := PE.imp (pe_callB hc hg hm hv (pa_cons ha pa_nil he) hn hdb he) fun _ _ _ => cl1 c
theorem e_ty1 (hc : CallR X (.type T) r) (c : Cl1 X.K r q) (hg : Gl X x) (hm : X.mg x = none) (hv : bootBuiltins x = some (.type T)) (ha : EB X e ta) (hn : x ≠ "__name__" := by decide) (hdb : (x == ("__debug__" : Str)) = false := by decide)
    (he : starEach [e] X.env = (false, eval e X.env) :: starEach [] X.env := by rfl) : EE X (.Call (.Name x p) [e] [] pos) (w1 q ta) := PE.imp (pe_callTy hc hg hm hv (pa_cons ha pa_nil he) hn hdb he) fun _ _ _ => cl1 c
end
def pLen : P1
  | .str z, P => z.length ≤ sizeLine ∧ P (.int z.length)
  | .list xs, P => P (.int xs.length)
  | .tuple xs, P => P (.int xs.length)
  | _, _ => False
theorem c_len {X : Cx} : Cl1 X.K (fun xs H Q => ∃ x n, xs = [x] ∧ LenV X.K x H n ∧ Q (.int n) H) pLen := by
  intro pn b F H v x P Q o bv q k
  match x, q with
  | .str z, ⟨h, q⟩ =>
    have e := bv.str
    subst e
    exact ⟨_, z.length, rfl, ⟨h, rfl⟩, k _ _ F H o .refl (.int _) q⟩
  | .list xs, q =>
    obtain ⟨a, vs, rfl, h1, r1⟩ := bv.list o
    exact ⟨_, vs.length, rfl, .inl ⟨vs, SqL.of h1, rfl⟩, k _ _ F H o .refl (by rw [r1.len]; exact .int _) q⟩
  | .tuple xs, q =>
    obtain ⟨a, vs, rfl, h1, r1⟩ := bv.tup o
    exact ⟨_, vs.length, rfl, .inr ⟨vs, h1, rfl⟩, k _ _ F H o .refl (by rw [r1.len]; exact .int _) q⟩
/-- list(x) of a list or tuple -/
def pListL : PyData → (List PyData → Prop) → Prop
  | .list xs, P => P xs
  | .tuple xs, P => P xs
  | _, _ => False
/-- int(b), int(i) -/
def pInt : P1
  | .int i, P => P (.int i)
  | .bool c, P => P (.int (if c then 1 else 0))
  | _, _ => False
theorem c_int {X : Cx} : Cl1 X.K (fun xs H Q => (∃ i, xs = [.int i] ∧ Q (.int i) H) ∨ ∃ k, xs = [.bl k] ∧ Q (.int (if k then 1 else 0)) H) pInt := by
  intro pn b F H v x P Q o bv q k
  match x, q with
  | .int i, q => exact .inl ⟨i, by rw [bv.int], k _ _ F H o .refl (.int _) q⟩
  | .bool c, q => exact .inr ⟨c, by rw [bv.bool], k _ _ F H o .refl (.int _) q⟩
/-- all(..), any(..) of a list of bools -/
def boolsOf : List PyData → Option (List Bool)
  | [] => some []
  | .bool c :: r => (boolsOf r).map (c :: ·)
  | _ :: _ => none
theorem RVs.bools {K : PySem.W.Frag} {F : Hp} : ∀ {vs : List V} {ds : List PyData} {bs : List Bool}, RVs K F vs ds → boolsOf ds = some bs → vs = bs.map V.bl
  | _, _, _, .nil, h => by simp [boolsOf] at h; subst h; rfl
  | _, _, bs, .cons (d := d) r t, h => by
    cases r with
    | bl c =>
      simp only [boolsOf, Option.map_eq_some_iff] at h
      obtain ⟨cs, h1, rfl⟩ := h
      rw [t.bools h1]; rfl
    | _ => simp [boolsOf] at h
def pAll : P1
  | .list xs, P => match boolsOf xs with | some bs => P (.bool (bs.all id)) | none => False
  | _, _ => False
def pAny : P1
  | .list xs, P => match boolsOf xs with | some bs => P (.bool (bs.any id)) | none => False
  | _, _ => False
theorem c_all {X : Cx} : Cl1 X.K (rAll X.K) pAll := by
  intro pn b F H v x P Q o bv q k
  match x, q with
  | .list xs, q =>
    obtain ⟨a, vs, rfl, h1, r1⟩ := bv.list o
    cases e : boolsOf xs with
    | none => simp only [pAll, e] at q
    | some bs =>
      simp only [pAll, e] at q
      have e2 := r1.bools e
      subst e2
      exact ⟨a, bs, rfl, SqL.of h1, k _ _ F H o .refl (.bl _) q⟩
theorem c_any {X : Cx} : Cl1 X.K (rAny X.K) pAny := by
  intro pn b F H v x P Q o bv q k
  match x, q with
  | .list xs, q =>
    obtain ⟨a, vs, rfl, h1, r1⟩ := bv.list o
    cases e : boolsOf xs with
    | none => simp only [pAny, e] at q
    | some bs =>
      simp only [pAny, e] at q
      have e2 := r1.bools e
      subst e2
      exact ⟨a, bs, rfl, SqL.of h1, k _ _ F H o .refl (.bl _) q⟩
def pTru : PyData → (Bool → Prop) → Prop
  | .none, P => P false
  | .bool c, P => P c
  | .int i, P => P (i != 0)
  | .str z, P => z.length ≤ sizeLine ∧ P ((z.length : Int) != 0)
  | .list xs, P => P (!xs.isEmpty)
  | .tuple xs, P => P (!xs.isEmpty)
  | .dict kvs, P => P (!kvs.isEmpty)
theorem isE {K : PySem.W.Frag} {F : Hp} {vs : List V} {ds : List PyData} (r : RVs K F vs ds) : (!vs.isEmpty) = !ds.isEmpty := by cases r <;> rfl
theorem tru {K : PySem.W.Frag} {pn : Pn} {b : Nat} {F H : Hp} {v : V} {x : PyData} (o : Ok pn b F H) (bv : BV K pn F H v x) {P : Bool → Prop} (q : pTru x P) : ∃ k, TruV K v H k ∧ P k := by
  match x, q with
  | .none, q => have e := bv.none'; subst e; exact ⟨false, rfl, q⟩
  | .bool c, q => have e := bv.bool; subst e; exact ⟨c, rfl, q⟩
  | .int i, q => have e := bv.int; subst e; exact ⟨_, rfl, q⟩
  | .str z, ⟨h, q⟩ => have e := bv.str; subst e; exact ⟨_, ⟨h, rfl⟩, q⟩
  | .list xs, q =>
    obtain ⟨a, vs, rfl, h1, r1⟩ := bv.list o
    exact ⟨_, .inl ⟨vs, SqL.of h1, rfl⟩, by rw [isE r1]; exact q⟩
  | .tuple xs, q =>
    obtain ⟨a, vs, rfl, h1, r1⟩ := bv.tup o
    exact ⟨_, .inr (.inl ⟨vs, h1, rfl⟩), by rw [isE r1]; exact q⟩
  | .dict kvs, q =>
    rcases bv with bv | ⟨_, e, _⟩
    · cases bv with
      | dct h => exact ⟨_, .inr (.inr ⟨[], o.sub _ _ h, rfl⟩), q⟩
    · cases e
def wTru (t : WE) : WT := fun env b P => t env b fun x b1 => pTru x fun k => P k b1
def wAndT (t u : WT) : WT := fun env b P => t env b fun c b1 => if c = true then u env b1 P else P false b1
def wOrT (t u : WT) : WT := fun env b P => t env b fun c b1 => if c = true then P true b1 else u env b1 P
def wNotT (t : WT) : WT := fun env b P => t env b fun c b1 => P (!c) b1
def wIfE (c : WT) (t u : WE) : WE := fun env b P => c env b fun k b1 => if k = true then t env b1 P else u env b1 P
def wOrE (t u : WE) : WE := fun env b P => t env b fun x b1 => pTru x fun k => if k = true then P x b1 else u env b1 P
def wAndE (t u : WE) : WE := fun env b P => t env b fun x b1 => pTru x fun k => if k = true then u env b1 P else P x b1
def wNotE (t : WE) : WE := fun env b P => t env b fun x b1 => pTru x fun k => P (.bool (!k)) b1
section
variable {X : Cx} {a c e : Expr} {pos : Pos} {rest : List Expr} {ta tb : WE} {ua ub : WT}
theorem t_tru (ha : EB X a ta) (he : ∀ whole, isTrue a X.env whole = (do let v ← whole; standAt a.pos; holding [v] (truthy v))) : ET X a (wTru ta) := PT.imp (pt_truth ha he) fun σ H Q ⟨pn, F, env, b, P, rep, t, k⟩ =>
  ⟨pn, F, env, b, _, rep, t, fun v x F1 H1 b1 o1 e1 bv t1 => let ⟨c, h1, h2⟩ := tru o1 bv t1; ⟨c, h1, k c F1 H1 b1 o1 e1 h2⟩⟩
theorem PW.imp {t u : TT} (h : PW X e t) (i : ∀ σ H Q, u σ H Q → t σ H Q) : PW X e u := ⟨fun wh pins s σ H Q I q => h.run wh pins s σ H Q I (i _ _ _ q)⟩
theorem tw_and (ha : ET X a ua) (hb : PW X (.BoolOp .And (c :: rest) pos) (lT X.K ub)) : PW X (.BoolOp .And (a :: c :: rest) pos) (lT X.K (wAndT ua ub)) := PW.imp (pw_and ha hb) fun σ H Q ⟨pn, F, env, b, P, rep, t, k⟩ => by
  refine ⟨pn, F, env, b, _, rep, t, fun kc F1 H1 b1 o1 e1 t1 => ?_⟩
  cases kc with
  | true => exact ⟨pn, F1, env, b1, _, rep.ext o1 e1, t1, fun k' F2 H2 b2 o2 e2 q => k k' F2 H2 b2 o2 (e1.trans e2) q⟩
  | false => exact k false F1 H1 b1 o1 e1 t1
theorem tw_or (ha : ET X a ua) (hb : PW X (.BoolOp .Or (c :: rest) pos) (lT X.K ub)) : PW X (.BoolOp .Or (a :: c :: rest) pos) (lT X.K (wOrT ua ub)) := PW.imp (pw_or ha hb) fun σ H Q ⟨pn, F, env, b, P, rep, t, k⟩ => by
  refine ⟨pn, F, env, b, _, rep, t, fun kc F1 H1 b1 o1 e1 t1 => ?_⟩
  cases kc with
  | false => exact ⟨pn, F1, env, b1, _, rep.ext o1 e1, t1, fun k' F2 H2 b2 o2 e2 q => k k' F2 H2 b2 o2 (e1.trans e2) q⟩
  | true => exact k true F1 H1 b1 o1 e1 t1
theorem t_not (ha : ET X a ua) : ET X (.UnaryOp .Not a pos) (wNotT ua) := PT.imp (pt_not ha) fun σ H Q ⟨pn, F, env, b, P, rep, t, k⟩ =>
  ⟨pn, F, env, b, _, rep, t, fun kc F1 H1 b1 o1 e1 t1 => k _ F1 H1 b1 o1 e1 t1⟩
theorem e_if (hc : ET X c ua) (ha : EE X a ta) (hb : EE X e tb) : EE X (.IfExp c a e pos) (wIfE ua ta tb) := PE.imp (pe_ifExp hc ha hb) fun σ H Q ⟨pn, F, env, b, P, rep, t, k⟩ => by
  refine ⟨pn, F, env, b, _, rep, t, fun kc F1 H1 b1 o1 e1 t1 => ?_⟩
  cases kc with
  | true => exact ⟨pn, F1, env, b1, _, rep.ext o1 e1, t1, fun v d F2 H2 b2 o2 e2 rv q => k v d F2 H2 b2 o2 (e1.trans e2) rv q⟩
  | false => exact ⟨pn, F1, env, b1, _, rep.ext o1 e1, t1, fun v d F2 H2 b2 o2 e2 rv q => k v d F2 H2 b2 o2 (e1.trans e2) rv q⟩
theorem e_or (ha : EE X a ta) (hb : EE X (.BoolOp .Or (c :: rest) pos) tb) : EE X (.BoolOp .Or (a :: c :: rest) pos) (wOrE ta tb) := PE.imp (pe_orT ha hb) fun σ H Q ⟨pn, F, env, b, P, rep, t, k⟩ => by
  refine ⟨pn, F, env, b, _, rep, t, fun v x F1 H1 b1 o1 e1 rv t1 => ?_⟩
  obtain ⟨kc, h1, h2⟩ := tru o1 (.inl rv) t1
  refine ⟨kc, h1, ?_⟩
  cases kc with
  | true => exact k v x F1 H1 b1 o1 e1 rv h2
  | false => exact ⟨pn, F1, env, b1, _, rep.ext o1 e1, h2, fun v d F2 H2 b2 o2 e2 rv q => k v d F2 H2 b2 o2 (e1.trans e2) rv q⟩
theorem e_and (ha : EE X a ta) (hb : EE X (.BoolOp .And (c :: rest) pos) tb) : EE X (.BoolOp .And (a :: c :: rest) pos) (wAndE ta tb) := PE.imp (pe_andT ha hb) fun σ H Q ⟨pn, F, env, b, P, rep, t, k⟩ => by
  refine ⟨pn, F, env, b, _, rep, t, fun v x F1 H1 b1 o1 e1 rv t1 => ?_⟩
  obtain ⟨kc, h1, h2⟩ := tru o1 (.inl rv) t1
  refine ⟨kc, h1, ?_⟩
  cases kc with
  | false => exact k v x F1 H1 b1 o1 e1 rv h2
  | true => exact ⟨pn, F1, env, b1, _, rep.ext o1 e1, h2, fun v d F2 H2 b2 o2 e2 rv q => k v d F2 H2 b2 o2 (e1.trans e2) rv q⟩
end
def wC (d : PyData) : WE := fun _ b P => P d b
def wVar (i : Nat) : WE := fun env b P => match env[i]? with
  | some (some (.d x)) => P x b
  | some (some (.l xs)) => P (.list xs) b
  | some (some (.r xs)) => P (.list xs) b
  | _ => False
def wVal (i : Nat) : WE := fun env b P => match env[i]? with
  | some (some (.d x)) => P x b
  | _ => False
section
variable {X : Cx} {i : Nat} {x : Str} {pos : Pos}
theorem b_var (h : PE X (.Name x pos) (tVar i)) : EB X (.Name x pos) (wVar i) := PE.imp h fun σ H Q ⟨pn, F, env, b, P, rep, t, k⟩ => by
  unfold wVar at t
  split at t
  · rename_i y h
    obtain ⟨v, h1, h2⟩ := rep.slot i _ h
    exact ⟨v, h1, k v y F H b rep.ok .refl (.inl h2) t⟩
  · rename_i y h
    obtain ⟨v, h1, h2⟩ := rep.slot i _ h
    exact ⟨v, h1, k v _ F H b rep.ok .refl (.inr ⟨_, rfl, h2⟩) t⟩
  · rename_i y h
    obtain ⟨v, h1, h2⟩ := rep.slot i _ h
    exact ⟨v, h1, k v _ F H b rep.ok .refl (.inr ⟨_, rfl, h2⟩) t⟩
  · exact t.elim
theorem e_var (h : PE X (.Name x pos) (tVar i)) : EE X (.Name x pos) (wVal i) := PE.imp h fun σ H Q ⟨pn, F, env, b, P, rep, t, k⟩ => by
  unfold wVal at t
  split at t
  · rename_i y h
    obtain ⟨v, h1, h2⟩ := rep.slot i _ h
    exact ⟨v, h1, k v y F H b rep.ok .refl h2 t⟩
  · exact t.elim
theorem e_c {e : Expr} {v : V} {d : PyData} (h : PE X e (tC v)) (r : ∀ F, RV X.K F v d) : EE X e (wC d) := PE.imp h fun σ H Q ⟨pn, F, env, b, P, rep, t, k⟩ => k v d F H b rep.ok .refl (r F) t
theorem e_int {n : Int} {j : Nat} : EE X (.Constant (.int n) j pos) (wC (.int n)) := e_c pe_int fun _ => .int n
theorem e_bl {n : Bool} {j : Nat} : EE X (.Constant (.bool n) j pos) (wC (.bool n)) := e_c pe_bl fun _ => .bl n
theorem e_str {n : Str} {j : Nat} : EE X (.Constant (.str n) j pos) (wC (.str n)) := e_c pe_str fun _ => .str n
theorem e_non {j : Nat} : EE X (.Constant .none j pos) (wC .none) := e_c pe_non fun _ => .non
def wNeg (ta : WE) : WE := fun env b P => ta env b fun x b1 => match x with | .int i => P (.int (-i)) b1 | _ => False
theorem e_neg {e : Expr} {ta : WE} (ha : EB X e ta) : EE X (.UnaryOp .USub e pos) (wNeg ta) := PE.imp (pe_un un_neg ha) fun σ H Q ⟨pn, F, env, b, P, rep, t, k⟩ => by
  refine ⟨pn, F, env, b, _, rep, t, fun v x F1 H1 b1 o1 e1 bv t1 => ?_⟩
  match x, t1 with
  | .int i, t1 => exact ⟨i, bv.int, k _ _ F1 H1 b1 o1 e1 (.int _) t1⟩
end
abbrev WL := En → Nat → (List PyData → Nat → Prop) → Prop
def lD (K : PySem.W.Frag) (t : WL) : TA := fun σ H Q => ∃ pn F env b P, Rep K pn F H σ env b ∧ t env b P ∧
  ∀ vs ds F' H' b', Ok pn b' F' H' → Ext pn F H F' H' → RVs K F' vs ds → P ds b' → Q vs H'
abbrev ED (X : Cx) (es : List Expr) (t : WL) : Prop := PA X es (lD X.K t)
def wNil : WL := fun _ b P => P [] b
def wCons (t : WE) (u : WL) : WL := fun env b P => t env b fun x b1 => u env b1 fun xs b2 => P (x :: xs) b2
section
variable {X : Cx} {e : Expr} {es : List Expr} {pos : Pos} {te : WE} {t : WL}
theorem d_nil : ED X [] wNil := PA.imp pa_nil fun σ H Q ⟨pn, F, env, b, P, rep, t, k⟩ => k [] [] F H b rep.ok .refl .nil t
theorem d_cons (ha : EE X e te) (hr : ED X es t) (hs : starEach (e :: es) X.env = (false, eval e X.env) :: starEach es X.env := by rfl) : ED X (e :: es) (wCons te t) := PA.imp (pa_cons ha hr hs) fun σ H Q ⟨pn, F, env, b, P, rep, t, k⟩ =>
  ⟨pn, F, env, b, _, rep, t, fun v x F1 H1 b1 o1 e1 rv t1 => ⟨pn, F1, env, b1, _, rep.ext o1 e1, t1, fun vs ds F2 H2 b2 o2 e2 rvs q => k _ _ F2 H2 b2 o2 (e1.trans e2) (.cons (rv.mono e2.fsub) rvs) q⟩⟩
def wTup (t : WL) : WE := fun env b P => t env b fun xs b1 => xs.length ≤ sizeLine ∧ P (.tuple xs) b1
def wLst (t : WL) : WF := fun env b P => t env b fun xs b1 => xs.length ≤ sizeLine ∧ P xs b1
theorem e_tup {x1 : Nat} (h : ED X es t) : EE X (.Tuple es x1 pos) (wTup t) := PE.imp (pe_tupP h) fun σ H Q ⟨pn, F, env, b, P, rep, t, k⟩ =>
  ⟨pn, F, env, b, _, rep, t, fun vs ds F1 H1 b1 o1 e1 rvs ⟨z, q⟩ => ⟨by rw [rvs.len]; exact z, Go.tup (P := fun d => P d b1) (fun w z F' H' o2 e2 rv q => k w z F' H' b1 o2 (e1.trans e2) rv q) o1 rvs q⟩⟩
theorem f_lst (h : ED X es t) : EF X (.List es pos) (wLst t) := PE.imp (pe_lst h) fun σ H Q ⟨pn, F, env, b, P, rep, t, k⟩ =>
  ⟨pn, F, env, b, _, rep, t, fun vs ds F1 H1 b1 o1 e1 rvs ⟨z, q⟩ => ⟨by rw [rvs.len]; exact z, GoL.lst (P := fun d => P d b1) (fun w z F' H' o2 e2 rv nw q => k w z F' H' b1 o2 (e1.trans e2) rv (fun a e => e1.back rep.ok o1 (nw a e)) q) o1 rvs q⟩⟩
end
end Pu
namespace Pu
open PySem PySem.Spec PyProof.Rows L2
def tyD : PyData → String
  | .none => "NoneType"
  | .bool _ => "bool"
  | .int _ => "int"
  | .str _ => "str"
  | .list _ => "list"
  | .tuple _ => "tuple"
  | .dict _ => "dict"
def isiD (T : String) (d : PyData) : Bool := tyD d == T || (T == "int" && tyD d == "bool")
theorem BV.ty {K : PySem.W.Frag} {pn : Pn} {b : Nat} {F H : Hp} {v : V} {x : PyData} (o : Ok pn b F H) (bv : BV K pn F H v x) : TyX K H v (.type (tyD x)) := by
  rcases bv with bv | ⟨xs, rfl, a, vs, rfl, _, _, _, h, _⟩
  · cases bv with
    | non => exact .base .non
    | bl c => exact .base (.bl c)
    | int i => exact .base (.int i)
    | str i => exact .base (.str i)
    | lst h _ => exact .base (.lst (o.sub _ _ h))
    | dct h => exact .base (.dK (o.sub _ _ h))
    | tup h _ =>
      rcases h with ⟨ob, h, _⟩ | ⟨ob, _, _, hk, hc, _⟩
      · exact .fTuple (o.sub _ _ h)
      · exact .kTuple hk hc
  · exact .base (.lst h)
/-- the answers for the classes that are written -/
def KitT (T : String) : Prop := ∀ d : PyData, kitB (tyD d) T = some (isiD T d)
theorem kit_all (T : String) (h : (["NoneType", "bool", "int", "str", "list", "tuple", "dict"].all fun s => decide (kitB s T = some (s == T || (T == "int" && s == "bool")))) = true) : KitT T := fun d => by
  have h' := List.all_eq_true.mp h
  have : tyD d ∈ ["NoneType", "bool", "int", "str", "list", "tuple", "dict"] := by cases d <;> simp [tyD]
  exact of_decide_eq_true (h' _ this)
theorem kit_int : KitT "int" := kit_all _ (by decide +kernel)
theorem kit_str : KitT "str" := kit_all _ (by decide +kernel)
theorem kit_bool : KitT "bool" := kit_all _ (by decide +kernel)
theorem kit_tuple : KitT "tuple" := kit_all _ (by decide +kernel)
theorem kit_list : KitT "list" := kit_all _ (by decide +kernel)
def pIsi (Ts : List String) : P1 := fun d P => P (.bool (Ts.any fun T => isiD T d))
section
variable {X : Cx} {e ec : Expr} {ta : WE} {x T : Str} {p pos tpos : Pos}
theorem e_isi {T : String} (kt : KitT T) (hg : Gl X "isinstance") (hm : X.mg "isinstance" = none) (ha : EB X e ta) (hc : PE X ec (tC (.ty T)))
    (he : starEach [e, ec] X.env = (false, eval e X.env) :: starEach [ec] X.env := by rfl) (he2 : starEach [ec] X.env = (false, eval ec X.env) :: starEach [] X.env := by rfl) (hpl : (backTo pos (starEach [ec] X.env)).any (·.1) = false := by rfl) :
    EE X (.Call (.Name "isinstance" p) [e, ec] [] pos) (w1 (pIsi [T]) ta) :=
  PE.imp (pe_callB call_isi hg hm (by decide +kernel) (pa_cons ha (pa_cons hc pa_nil he2) he) (by decide) (by decide) he hpl) fun σ H Q ⟨pn, F, env, b, P, rep, t, k⟩ =>
    ⟨pn, F, env, b, _, rep, t, fun v d F1 H1 b1 o1 e1 bv t1 => ⟨v, _, _, _, isiD T d, rfl, .ty T, bv.ty o1, kit_ty (kt d), k _ _ F1 H1 b1 o1 e1 (.bl _) (by simpa [pIsi] using t1)⟩⟩
/-- the classes of a written tuple -/
inductive Tys (X : Cx) : List Expr → List String → TA → Prop
  | nil : Tys X [] [] tNil
  | cons {e : Expr} {es : List Expr} {T : String} {Ts : List String} {t : TA} : KitT T → PE X e (tC (.ty T)) → starEach (e :: es) X.env = (false, eval e X.env) :: starEach es X.env → Tys X es Ts t → Tys X (e :: es) (T :: Ts) (tCons (tC (.ty T)) t)
theorem Tys.pa {es : List Expr} {Ts : List String} {t : TA} (h : Tys X es Ts t) : PA X es t := by
  induction h with
  | nil => exact pa_nil
  | cons _ h1 h2 _ ih => exact pa_cons h1 ih h2
theorem Tys.run {es : List Expr} {Ts : List String} {t : TA} (h : Tys X es Ts t) {σ : L2.St} {H : Hp} {Q : List V → Hp → Prop} (q : Q (Ts.map V.ty) H) : t σ H Q := by
  induction h generalizing Q with
  | nil => exact q
  | cons _ _ _ _ ih => exact ih q
theorem Tys.kit {es : List Expr} {Ts : List String} {t : TA} {K : PySem.W.Frag} (h : Tys X es Ts t) (d : PyData) : PySem.W.kitAny K (.type (tyD d)) (Ts.map Value.type) = some (Ts.any fun T => isiD T d) := by
  induction h with
  | nil => exact kitAny_nil
  | @cons e es T Ts t kt _ _ _ ih =>
    refine kitAny_cons (kit_ty (kt d)) (fun z => ?_) (fun z => ?_)
    · rw [ih, List.any_cons, z, Bool.false_or]
    · rw [List.any_cons, z, Bool.true_or]
theorem Tys.cls : ∀ Ts : List String, Paired ClsV (Ts.map V.ty) (Ts.map Value.type)
  | [] => .nil
  | T :: r => .cons (.ty T) (Tys.cls r)
theorem e_isiT {es : List Expr} {Ts : List String} {t : TA} {x1 : Nat} (ty : Tys X es Ts t) (hl : Ts.length ≤ sizeLine) (hg : Gl X "isinstance") (hm : X.mg "isinstance" = none) (ha : EB X e ta)
    (he : starEach [e, .Tuple es x1 tpos] X.env = (false, eval e X.env) :: starEach [.Tuple es x1 tpos] X.env := by rfl) (he2 : starEach [.Tuple es x1 tpos] X.env = (false, eval (.Tuple es x1 tpos) X.env) :: starEach [] X.env := by rfl) (hpl : (backTo pos (starEach [.Tuple es x1 tpos] X.env)).any (·.1) = false := by rfl) :
    EE X (.Call (.Name "isinstance" p) [e, .Tuple es x1 tpos] [] pos) (w1 (pIsi Ts) ta) :=
  PE.imp (pe_callB call_isiT hg hm (by decide +kernel) (pa_cons ha (pa_cons (pe_tup ty.pa) pa_nil he2) he) (by decide) (by decide) he hpl) fun σ H Q ⟨pn, F, env, b, P, rep, w, k⟩ => by
    refine ⟨pn, F, env, b, _, rep, w, fun v d F1 H1 b1 o1 e1 bv t1 => ?_⟩
    refine ty.run ⟨by simpa using hl, fun q hq => ?_⟩
    have bv2 := bv.ext (Ext.own (pn := pn) (F := F1) (o := .tup (Ts.map V.ty)) hq)
    exact ⟨v, q, Ts.map V.ty, _, Ts.map Value.type, _, rfl, upd_same, Tys.cls Ts, bv2.ty (o1.own hq), ty.kit d, k _ _ F1 _ b1 (o1.own hq) (e1.trans (.own hq)) (.bl _) t1⟩
end
abbrev WO := En → Nat → (Option Int → Nat → Prop) → Prop
def lO (K : PySem.W.Frag) (t : WO) : TO := fun σ H Q => ∃ pn F env b P, Rep K pn F H σ env b ∧ t env b P ∧
  ∀ o F' H' b', Ok pn b' F' H' → Ext pn F H F' H' → P o b' → Q o H'
abbrev EO (X : Cx) (e : Option Expr) (t : WO) : Prop := PO X e (lO X.K t)
theorem PO.imp {X : Cx} {e : Option Expr} {t u : TO} (h : PO X e t) (i : ∀ σ H Q, u σ H Q → t σ H Q) : PO X e u := ⟨fun pins s σ H Q I q => h.run pins s σ H Q I (i _ _ _ q)⟩
def wNoPart : WO := fun _ b P => P none b
def wPart (t : WE) : WO := fun env b P => t env b fun x b1 => match x with | .int i => P (some i) b1 | _ => False
theorem o_none {X : Cx} : EO X none wNoPart := PO.imp po_none fun σ H Q ⟨pn, F, env, b, P, rep, t, k⟩ => k none F H b rep.ok .refl t
theorem o_some {X : Cx} {e : Expr} {t : WE} (h : EB X e t) : EO X (some e) (wPart t) := PO.imp (po_some h) fun σ H Q ⟨pn, F, env, b, P, rep, t, k⟩ => by
  refine ⟨pn, F, env, b, _, rep, t, fun v x F1 H1 b1 o1 e1 bv t1 => ?_⟩
  match x, t1 with
  | .int i, t1 => exact ⟨i, bv.int, k _ F1 H1 b1 o1 e1 t1⟩
def cutD (xs : List PyData) (lo hi : Option Int) : List PyData := (xs.drop (HT.sIx xs.length 0 lo)).take (HT.sIx xs.length xs.length hi - HT.sIx xs.length 0 lo)
def pSl (lo hi : Option Int) : P1
  | .str z, P => z.length ≤ sizeLine ∧ P (.str (cutS z lo hi))
  | .tuple xs, P => P (.tuple (cutD xs lo hi))
  | .list xs, P => P (.list (cutD xs lo hi))
  | _, _ => False
def wSl (t : WE) (l h : WO) : WE := fun env b P => t env b fun x b1 => l env b1 fun lo b2 => h env b2 fun hi b3 => pSl lo hi x fun z => P z b3
def wSlL (t : WE) (l h : WO) : WF := fun env b P => t env b fun x b1 => l env b1 fun lo b2 => h env b2 fun hi b3 => match x with | .list xs => P (cutD xs lo hi) b3 | _ => False
theorem RVs.cut {K : PySem.W.Frag} {F : Hp} {vs : List V} {ds : List PyData} (r : RVs K F vs ds) (lo hi : Option Int) : RVs K F (cutV vs lo hi) (cutD ds lo hi) := by
  unfold cutV cutD
  rw [r.len]
  exact (r.drop' _).take' _
theorem cutV_whole {xs : List V} {lo hi : Option Int} (h : HT.sIx xs.length 0 lo = 0 ∧ HT.sIx xs.length xs.length hi = xs.length) : cutV xs lo hi = xs := by
  unfold cutV; rw [h.1, h.2]; simp
section
variable {X : Cx} {e : Expr} {te : WE} {lo hi : Option Expr} {tl th : WO} {pos p2 : Pos}
theorem e_sl (he : EB X e te) (hl : EO X lo tl) (hu : EO X hi th) : EE X (.Subscript e (.Slice lo hi none p2) pos) (wSl te tl th) :=
  PE.imp (pe_slice (SlR.or sl_str (SlR.or sl_tupP sl_list)) he hl hu) fun σ H Q ⟨pn, F, env, b, P, rep, t, k⟩ => by
    refine ⟨pn, F, env, b, _, rep, t, fun v x F1 H1 b1 o1 e1 bv t1 => ?_⟩
    refine ⟨pn, F1, env, b1, _, rep.ext o1 e1, t1, fun l F2 H2 b2 o2 e2 t2 => ?_⟩
    refine ⟨pn, F2, env, b2, _, (rep.ext o1 e1).ext o2 e2, t2, fun u F3 H3 b3 o3 e3 t3 => ?_⟩
    have bv3 := (bv.ext e2).ext e3
    have k3 : Go X.K pn b3 F3 H3 (fun z => P z b3) Q := fun w z F' H' o4 e4 rv q => k w z F' H' b3 o4 (e1.trans (e2.trans (e3.trans e4))) rv q
    match x, t3 with
    | .str z, ⟨hz, q⟩ => exact .inl ⟨z, bv3.str, hz, k3 _ _ F3 H3 o3 .refl (.str _) q⟩
    | .tuple xs, q =>
      rcases bv3 with bv3 | ⟨_, e, _⟩
      · cases bv3 with
        | tup h r =>
          refine .inr (.inl ⟨_, _, rfl, Same.tup o3.sub h.sq, fun z => ?_, fun z => k3.tup o3 (r.cut l u) q⟩)
          have := r.cut l u
          rw [cutV_whole z] at this
          exact k3 _ _ F3 H3 o3 .refl (.tup h this) q
      · cases e
    | .list xs, q =>
      obtain ⟨a, vs, rfl, h1, r1⟩ := bv3.list o3
      exact .inr (.inr ⟨a, vs, rfl, SqL.of h1, k3.lst o3 (r1.cut l u) q⟩)
theorem RVs.rev {K : PySem.W.Frag} {F : Hp} : ∀ {vs : List V} {ds : List PyData}, RVs K F vs ds → RVs K F vs.reverse ds.reverse
  | _, _, .nil => .nil
  | _, _, .cons r t => by rw [List.reverse_cons, List.reverse_cons]; exact (RVs.rev t).app (.one r)
end
def strsOf : List PyData → Option (List Str)
  | [] => some []
  | .str c :: r => (strsOf r).map (c :: ·)
  | _ :: _ => none
theorem RVs.strs {K : PySem.W.Frag} {F : Hp} : ∀ {vs : List V} {ds : List PyData} {bs : List Str}, RVs K F vs ds → strsOf ds = some bs → vs = bs.map V.str
  | _, _, _, .nil, h => by simp [strsOf] at h; subst h; rfl
  | _, _, bs, .cons (d := d) r t, h => by
    cases r with
    | str c =>
      simp only [strsOf, Option.map_eq_some_iff] at h
      obtain ⟨cs, h1, rfl⟩ := h
      rw [t.strs h1]; rfl
    | _ => simp [strsOf] at h
abbrev PS2 := Str → PyData → (PyData → Prop) → Prop
/-- sep.join(list of texts) -/
def pJoin : PS2
  | a, .list xs, P => match strsOf xs with | some ys => (ys.map (·.length)).sum + ys.length * a.length ≤ 16777216 ∧ P (.str (Txt.join a ys)) | none => False
  | _, _, _ => False
/-- s.index(t) -/
def pIndex : PS2
  | a, .str c, P => match Builtin.Str.occurrences a c 0 a.length 1 with | i :: _ => P (.int (i : Nat)) | [] => False
  | _, _, _ => False
/-- a method of a text with one argument -/
def wMS (p : PS2) (ta tb : WE) : WE := fun env b P => ta env b fun x b1 => match x with
  | .str a => tb env b1 fun y b2 => p a y fun z => P z b2
  | _ => False
def MsR (K : PySem.W.Frag) (r : V → List V → Hp → VK → Prop) (p : PS2) : Prop :=
  ∀ (pn : Pn) (b : Nat) (F H : Hp) (a : Str) (u : V) (y : PyData) (P : PyData → Prop) (Q : VK), Ok pn b F H → BV K pn F H u y → p a y P → Go K pn b F H P Q → r (.str a) [u] H Q
section
variable {X : Cx} {o e : Expr} {ta tb : WE} {apos pos : Pos}
theorem ms_run {r : V → List V → Hp → VK → Prop} {p : PS2} (m : MsR X.K r p) {σ : L2.St} {H : Hp} {Q : VK} (h : lE X.K (wMS p ta tb) σ H Q) : tM1 r (lB X.K ta) (lB X.K tb) σ H Q := by
  obtain ⟨pn, F, env, b, P, rep, t, k⟩ := h
  refine ⟨pn, F, env, b, _, rep, t, fun v x F1 H1 b1 o1 e1 bv t1 => ?_⟩
  cases x with
  | str a =>
    have e := bv.str
    subst e
    exact ⟨⟨a, rfl⟩, pn, F1, env, b1, _, rep.ext o1 e1, t1, fun u y F2 H2 b2 o2 e2 bu t2 => m pn b2 F2 H2 a u y _ Q o2 bu t2 fun w z F' H' o3 e3 rv q => k w z F' H' b2 o3 (e1.trans (e2.trans e3)) rv q⟩
  | _ => exact t1.elim
theorem m_join {K : PySem.W.Frag} : MsR K (fun x xs H Q => ∃ a p, ∃ ys : List Str, x = .str a ∧ xs = [.ref p] ∧ (SqL K H p (ys.map V.str) ∨ SqT K H p (ys.map V.str)) ∧ (ys.map (·.length)).sum + ys.length * a.length ≤ 16777216 ∧ Q (.str (Txt.join a ys)) H) pJoin := by
  intro pn b F H a u y P Q o bu q k
  match y, q with
  | .list xs, q =>
    obtain ⟨p, vs, rfl, h1, r1⟩ := bu.list o
    cases es : strsOf xs with
    | none => simp only [pJoin, es] at q
    | some ys =>
      simp only [pJoin, es] at q
      have e3 := r1.strs es
      subst e3
      exact ⟨a, p, ys, rfl, rfl, .inl (SqL.of h1), q.1, k _ _ F H o .refl (.str _) q.2⟩
theorem e_join (ho : EB X o ta) (he : EB X e tb) (hs : starEach [e] X.env = [(false, eval e X.env)] := by rfl) (hbase : attributeBase o "join" X.env (eval o X.env) = eval o X.env := by rfl) (hline : (apos.endLine == pos.line) = true := by rfl) :
    EE X (.Call (.Attribute o "join" apos) [e] [] pos) (wMS pJoin ta tb) := PE.imp (pe_join ho he hs hbase hline) fun σ H Q h => ms_run m_join h
end
def wANil : WA := fun _ b P => P [] b
def wACons (t : WE) (u : WA) : WA := fun env b P => t env b fun x b1 => u env b1 fun xs b2 => P (.d x :: xs) b2
/-- the pen, a list of one's own, handed on by name -/
def wAName (i : Nat) (u : WA) : WA := fun env b P => match env[i]? with
  | some (some .p) => u env b fun xs b2 => P (.p :: xs) b2
  | some (some (.d x)) => u env b fun xs b2 => P (.d x :: xs) b2
  | some (some (.l ys)) => u env b fun xs b2 => P (.r ys :: xs) b2
  | some (some (.r ys)) => u env b fun xs b2 => P (.r ys :: xs) b2
  | _ => False
def wCall (f : WD) (t : WA) : WE := fun env b P => t env b fun ss b1 => f ss b1 P
section
variable {X : Cx} {e : Expr} {es : List Expr} {te : WE} {t : WA} {i : Nat} {x : Str} {p pos : Pos} {f : Addr} {fd : FuncData} {ps : List Str} {k : Nat} {w : WD}
theorem a_nil : EA X [] wANil := PA.imp pa_nil fun σ H Q ⟨pn, F, env, b, P, rep, t, k⟩ => k [] [] F H b rep.ok .refl trivial t
theorem a_cons (ha : EE X e te) (hr : EA X es t) (hs : starEach (e :: es) X.env = (false, eval e X.env) :: starEach es X.env := by rfl) : EA X (e :: es) (wACons te t) := PA.imp (pa_cons ha hr hs) fun σ H Q ⟨pn, F, env, b, P, rep, t, k⟩ =>
  ⟨pn, F, env, b, _, rep, t, fun v x F1 H1 b1 o1 e1 rv t1 => ⟨pn, F1, env, b1, _, rep.ext o1 e1, t1, fun vs ss F2 H2 b2 o2 e2 ar q => k _ (.d x :: ss) F2 H2 b2 o2 (e1.trans e2) ⟨rv.mono e2.fsub, rfl, ar⟩ q⟩⟩
theorem a_name (ha : PE X (.Name x p) (tVar i)) (hr : EA X es t) (hs : starEach (.Name x p :: es) X.env = (false, eval (.Name x p) X.env) :: starEach es X.env := by rfl) : EA X (.Name x p :: es) (wAName i t) := PA.imp (pa_cons ha hr hs) fun σ H Q ⟨pn, F, env, b, P, rep, t, k⟩ => by
  unfold wAName at t
  split at t
  · rename_i h
    obtain ⟨v, h1, h2⟩ := rep.slot i _ h
    exact ⟨v, h1, pn, F, env, b, _, rep, t, fun vs ss F2 H2 b2 o2 e2 ar q => k _ (.p :: ss) F2 H2 b2 o2 e2 ⟨h2.ext e2, rfl, ar⟩ q⟩
  · rename_i y h
    obtain ⟨v, h1, h2⟩ := rep.slot i _ h
    exact ⟨v, h1, pn, F, env, b, _, rep, t, fun vs ss F2 H2 b2 o2 e2 ar q => k _ (.d y :: ss) F2 H2 b2 o2 e2 ⟨h2.ext e2, rfl, ar⟩ q⟩
  · rename_i ys h
    obtain ⟨v, h1, h2⟩ := rep.slot i _ h
    exact ⟨v, h1, pn, F, env, b, _, rep, t, fun vs ss F2 H2 b2 o2 e2 ar q => k _ (.r ys :: ss) F2 H2 b2 o2 e2 ⟨SlIs.ext (s := .r ys) h2 e2, rfl, ar⟩ q⟩
  · rename_i ys h
    obtain ⟨v, h1, h2⟩ := rep.slot i _ h
    exact ⟨v, h1, pn, F, env, b, _, rep, t, fun vs ss F2 H2 b2 o2 e2 ar q => k _ (.r ys :: ss) F2 H2 b2 o2 e2 ⟨h2.ext e2, rfl, ar⟩ q⟩
  · exact t.elim
theorem e_call (G : FnOk X.prog X.w X.K X.mg X.base CX0 k f fd ps (spW X.K w)) (hr : Room k X.A) (hg : Gl X x) (hm : X.mg x = some (.ref f)) (hk : PySem.W.keepIn X.K (.ref f) = true) (hb : Binds X.K fd ps []) (ha : EA X (e :: es) t) (hdb : (x == ("__debug__" : Str)) = false := by decide)
    (he : starEach (e :: es) X.env = (false, eval e X.env) :: starEach es X.env := by rfl) (hpl : (backTo pos (starEach es X.env)).any (·.1) = false := by rfl) : EE X (.Call (.Name x p) (e :: es) [] pos) (wCall w t) :=
  PE.imp (pe_call G hr hg hm hk hb .nil pass0 ha hdb he hpl) fun σ H Q ⟨pn, F, env, b, P, rep, t, k⟩ =>
    ⟨pn, F, env, b, _, rep, t, fun vs ss F1 H1 b1 o1 e1 ar t1 => ⟨pn, F1, ss, b1, P, o1, by rw [List.append_nil]; exact ar, t1, fun v d F' H' b' o' e' rv q => k v d F' H' b' o' (e1.trans e') rv q⟩⟩
end
end Pu
namespace Pu
open PySem PySem.Spec PyProof.Rows L2
section
variable {K : PySem.W.Frag} {pn : Pn} {b b' : Nat} {F0 H0 F H F' H' : Hp} {σ : L2.St} {env : En} {i : Nat} {v : V}
theorem RepS.ext' (r : RepS K pn F0 H0 F H σ env b) (k : Ok pn b' F' H') (e : Ext pn F H F' H') : RepS K pn F0 H0 F' H' σ env b' := ⟨r.rep.ext k e, r.ext.trans e, r.own⟩
theorem Rep.setD (r : Rep K pn F H σ env b) {d : PyData} (rv : RV K F v d) : Rep K pn F H (σ.set i (some v)) (env.set i (some (.d d))) b := by
  refine ⟨r.ok, by simp [r.len], fun j s h => ?_, fun j k a xs ys n h1 h2 h3 => ?_⟩
  · by_cases e : j = i
    · subst e
      have hl : j < env.length := by have := (List.getElem?_eq_some_iff.mp h).1; simpa using this
      rw [List.getElem?_set_self hl] at h
      cases h
      exact ⟨v, List.getElem?_set_self (by rw [r.len]; exact hl), rv⟩
    · rw [List.getElem?_set_ne (Ne.symm e)] at h
      rw [List.getElem?_set_ne (Ne.symm e)]
      exact r.slot j s h
  · have e1 : j ≠ i := fun e => by
      subst e
      have hl : j < env.length := by have := (List.getElem?_eq_some_iff.mp h1).1; simpa using this
      rw [List.getElem?_set_self hl] at h1
      cases h1
    have e2 : k ≠ i := fun e => by
      subst e
      rcases h2 with h2 | h2
      all_goals
        have hl : k < env.length := by have := (List.getElem?_eq_some_iff.mp h2).1; simpa using this
        rw [List.getElem?_set_self hl] at h2
        cases h2
    rw [List.getElem?_set_ne (Ne.symm e1)] at h1 h3
    rw [List.getElem?_set_ne (Ne.symm e2)] at h2 ⊢
    exact r.apart j k a xs ys n h1 h2 h3
theorem RepS.setD (r : RepS K pn F0 H0 F H σ env b) {d : PyData} (rv : RV K F v d) : RepS K pn F0 H0 F H (σ.set i (some v)) (env.set i (some (.d d))) b := by
  refine ⟨r.rep.setD rv, r.ext, fun j a xs hs h1 h2 => ?_⟩
  have e1 : j ≠ i := fun e => by
    subst e
    have hl : j < env.length := by have := (List.getElem?_eq_some_iff.mp h1).1; simpa using this
    rw [List.getElem?_set_self hl] at h1
    cases h1
    cases hs
  rw [List.getElem?_set_ne (Ne.symm e1)] at h1 h2
  exact r.own j a xs hs h1 h2
/-- a list just made goes to a name -/
theorem RepS.setL (r : RepS K pn F0 H0 F H σ env b) {d : List PyData} (ow : OwnL K pn F H v d)
    (new : ∀ a, v = .ref a → H0 a = none ∧ ∀ (j : Nat) (ys : List PyData), (env[j]? = some (some (Sl.l ys)) ∨ env[j]? = some (some (Sl.r ys))) → σ[j]? ≠ some (some (V.ref a))) :
    RepS K pn F0 H0 F H (σ.set i (some v)) (env.set i (some (.l d))) b := by
  have get1 : ∀ (j : Nat) (s : Sl), (env.set i (some (.l d)))[j]? = some (some s) → (j = i ∧ s = .l d ∧ j < σ.length) ∨ (j ≠ i ∧ env[j]? = some (some s)) := fun j s h => by
    by_cases e : j = i
    · subst e
      have hl : j < env.length := by have := (List.getElem?_eq_some_iff.mp h).1; simpa using this
      rw [List.getElem?_set_self hl] at h
      cases h
      exact .inl ⟨rfl, rfl, by rw [r.rep.len]; exact hl⟩
    · rw [List.getElem?_set_ne (Ne.symm e)] at h
      exact .inr ⟨e, h⟩
  have get2 : ∀ (j : Nat), j ≠ i → (σ.set i (some v))[j]? = σ[j]? := fun j e => List.getElem?_set_ne (Ne.symm e)
  have get3 : i < σ.length → (σ.set i (some v))[i]? = some (some v) := fun h => List.getElem?_set_self h
  refine ⟨⟨r.rep.ok, by simp [r.rep.len], fun j s h => ?_, fun j k a xs ys n h1 h2 h3 => ?_⟩, r.ext, fun j a xs hq h1 h2 => ?_⟩
  · rcases get1 j s h with ⟨rfl, rfl, hl⟩ | ⟨e, h⟩
    · exact ⟨v, get3 hl, ow⟩
    · rw [get2 j e]; exact r.rep.slot j s h
  · have h2' : ∃ s, (env.set i (some (.l d)))[k]? = some (some s) ∧ (s = .l ys ∨ s = .r ys) := by rcases h2 with h2 | h2 <;> exact ⟨_, h2, by simp⟩
    obtain ⟨s2, h2', hs2⟩ := h2'
    rcases get1 j _ h1 with ⟨rfl, _, hl⟩ | ⟨e, g1⟩
    · rw [get3 hl] at h3
      cases h3
      rcases get1 k _ h2' with ⟨rfl, _, _⟩ | ⟨e2, h2'⟩
      · exact (n rfl).elim
      · rw [get2 k e2]
        exact (new a rfl).2 k ys (by rcases hs2 with rfl | rfl <;> simp [h2'])
    · rw [get2 j e] at h3
      rcases get1 k _ h2' with ⟨rfl, _, hl⟩ | ⟨e2, h2'⟩
      · rw [get3 hl]
        intro z
        cases z
        exact (new a rfl).2 j xs (.inl g1) h3
      · rw [get2 k e2]
        exact r.rep.apart j k a xs ys n g1 (by rcases hs2 with rfl | rfl <;> simp [h2']) h3
  · rcases get1 j _ h1 with ⟨rfl, _, hl⟩ | ⟨e, h1⟩
    · rw [get3 hl] at h2
      cases h2
      exact (new a rfl).1
    · rw [get2 j e] at h2
      exact r.own j a xs hq h1 h2
/-- a list of one's own is written -/
theorem RepS.write (r : RepS K pn F0 H0 F H σ env b) {xs ys : List PyData} {a : Addr} {ws : List V} (h : env[i]? = some (some (Sl.l xs))) (hs : σ[i]? = some (some (V.ref a))) (rv : RVs K F ws ys) :
    RepS K pn F0 H0 F (upd H a (.lst ws)) σ (env.set i (some (.l ys))) b := by
  have il : i < env.length := (List.getElem?_eq_some_iff.mp h).1
  obtain ⟨v, hv, ow⟩ := r.rep.slot i _ h
  rw [hs] at hv
  cases hv
  obtain ⟨a', vs, e, fa, np, nc, ha, _⟩ := ow
  cases e
  have n0 : H0 a = none := r.own i a _ rfl h hs
  have far : ∀ (j : Nat) (zs : List PyData) (w : V), j ≠ i → (env[j]? = some (some (Sl.l zs)) ∨ env[j]? = some (some (Sl.r zs))) → σ[j]? = some (some w) → w ≠ .ref a := fun j zs w n hj hw e => by
    subst e
    exact r.rep.apart i j a xs zs (Ne.symm n) h hj hs hw
  have keepO : ∀ {w : V} {zs : List PyData}, w ≠ .ref a → OwnL K pn F H w zs → OwnL K pn F (upd H a (.lst ws)) w zs := fun n ⟨c, us, e, f, p, q, hc, rc⟩ => by
    subst e
    exact ⟨c, us, rfl, f, p, q, by rw [upd_ne (fun z => n (by rw [z]))]; exact hc, rc⟩
  have pen' : PenIs pn b F (upd H a (.lst ws)) := by
    have kp := r.rep.ok.pen
    match pn, kp, np, nc with
    | none, _, _, _ => trivial
    | some (pa, ca), ⟨f1, f2, ne, cells, at_, cur, h1, h2, iv⟩, np, nc =>
      exact ⟨f1, f2, ne, cells, at_, cur, by rw [upd_ne (np pa ca rfl).symm]; exact h1, by rw [upd_ne (nc pa ca rfl).symm]; exact h2, iv⟩
  refine ⟨⟨⟨fun c o q => ?_, pen'⟩, by simp [r.rep.len], fun j s hj => ?_, fun j k c zs us n h1 h2 h3 => ?_⟩, ⟨r.ext.fsub, fun c o hc f p => ?_⟩, fun j c zs hq h1 h2 => ?_⟩
  · rw [upd_ne (fun z => by rw [z, fa] at q; cases q)]; exact r.rep.ok.sub c o q
  · by_cases e : j = i
    · subst e
      rw [List.getElem?_set_self il] at hj
      cases hj
      exact ⟨_, hs, a, ws, rfl, fa, np, nc, upd_same, rv⟩
    · rw [List.getElem?_set_ne (Ne.symm e)] at hj
      obtain ⟨w, hw, sl⟩ := r.rep.slot j s hj
      refine ⟨w, hw, ?_⟩
      match s, sl, hj with
      | .d x, sl, _ => exact sl
      | .l zs, sl, hj => exact keepO (far j zs w e (.inl hj) hw) sl
      | .r zs, sl, hj => exact keepO (far j zs w e (.inr hj) hw) sl
      | .p, sl, _ => exact sl
      | .k zs, ⟨c, us, e, f, p, q, hc, rc⟩, _ => exact ⟨c, us, e, f, p, q, by rw [upd_ne (fun z => by rw [z, ha] at hc; exact nomatch hc)]; exact hc, rc⟩
  · have old : ∀ (m : Nat) (s : Sl), (env.set i (some (.l ys)))[m]? = some (some s) → (∃ zs, s = .l zs ∨ s = .r zs) → ∃ zs, env[m]? = some (some (Sl.l zs)) ∧ s = .l zs ∨ (m = i ∧ s = .l ys) ∨ env[m]? = some (some (Sl.r zs)) ∧ s = .r zs := fun m s hm hz => by
      by_cases e : m = i
      · subst e
        rw [List.getElem?_set_self il] at hm
        cases hm
        exact ⟨[], .inr (.inl ⟨rfl, rfl⟩)⟩
      · rw [List.getElem?_set_ne (Ne.symm e)] at hm
        obtain ⟨zs, rfl | rfl⟩ := hz
        · exact ⟨zs, .inl ⟨hm, rfl⟩⟩
        · exact ⟨zs, .inr (.inr ⟨hm, rfl⟩)⟩
    have h1' : ∃ zs', env[j]? = some (some (Sl.l zs')) := by
      obtain ⟨z, ⟨q, _⟩ | ⟨q, _⟩ | ⟨_, q⟩⟩ := old j _ h1 ⟨zs, .inl rfl⟩
      · exact ⟨z, q⟩
      · exact ⟨xs, by rw [q]; exact h⟩
      · cases q
    have h2' : ∃ us', env[k]? = some (some (Sl.l us')) ∨ env[k]? = some (some (Sl.r us')) := by
      rcases h2 with h2 | h2
      · obtain ⟨z, ⟨q, _⟩ | ⟨q, _⟩ | ⟨q, _⟩⟩ := old k _ h2 ⟨us, .inl rfl⟩
        · exact ⟨z, .inl q⟩
        · exact ⟨xs, .inl (by rw [q]; exact h)⟩
        · exact ⟨z, .inr q⟩
      · obtain ⟨z, ⟨q, _⟩ | ⟨q, _⟩ | ⟨q, _⟩⟩ := old k _ h2 ⟨us, .inr rfl⟩
        · exact ⟨z, .inl q⟩
        · exact ⟨xs, .inl (by rw [q]; exact h)⟩
        · exact ⟨z, .inr q⟩
    obtain ⟨z1, h1'⟩ := h1'
    obtain ⟨z2, h2'⟩ := h2'
    exact r.rep.apart j k c z1 z2 n h1' h2' h3
  · obtain ⟨q1, q2⟩ := r.ext.keep c o hc f p
    exact ⟨by rw [upd_ne (fun z => by rw [z, n0] at hc; cases hc)]; exact q1, q2⟩
  · by_cases e : j = i
    · subst e
      rw [hs] at h2
      cases h2
      exact n0
    · rw [List.getElem?_set_ne (Ne.symm e)] at h1
      exact r.own j c zs hq h1 h2
end
end Pu
namespace Pu
open PySem PySem.Spec PyProof.Rows L2
inductive Tg where
  | nm (i : Nat)
  | tp (is : List Nat)
def gs : List Nat → TGs
  | [] => gNil
  | i :: r => gCons (gName i) (gs r)
def gT (K : PySem.W.Frag) : Tg → TG
  | .nm i => gName i
  | .tp is => gTup K is.length (gs is)
def setAll : List Nat → List PyData → En → En
  | i :: r, d :: ds, env => setAll r ds (env.set i (some (.d d)))
  | _, _, env => env
def setT : Tg → PyData → En → Option En
  | .nm i, d, env => some (env.set i (some (.d d)))
  | .tp is, .tuple ds, env => if ds.length = is.length then some (setAll is ds env) else none
  | _, _, _ => none
def vsAll : List Nat → List V → L2.St → L2.St
  | i :: r, v :: vs, σ => vsAll r vs (σ.set i (some v))
  | _, _, σ => σ
section
variable {K : PySem.W.Frag} {pn : Pn} {b : Nat} {F0 H0 F H : Hp}
theorem gs_run : ∀ (is : List Nat) {vs : List V} {ds : List PyData} {σ : L2.St} {Q : L2.St → Hp → Prop}, RVs K F vs ds → ds.length = is.length → Q (vsAll is vs σ) H → gs is vs σ H Q
  | [], _, _, _, _, .nil, _, q => ⟨rfl, q⟩
  | i :: r, _, _, _, _, .cons rv t, h, q => ⟨_, _, rfl, gs_run r t (by simpa using h) q⟩
  | [], _, _, _, _, .cons _ _, h, _ => by simp at h
  | _ :: _, _, _, _, _, .nil, h, _ => by simp at h
theorem set_run : ∀ (is : List Nat) {vs : List V} {ds : List PyData} {σ : L2.St} {env : En}, RVs K F vs ds → RepS K pn F0 H0 F H σ env b → RepS K pn F0 H0 F H (vsAll is vs σ) (setAll is ds env) b
  | [], _, _, _, _, _, r => by simpa [vsAll, setAll] using r
  | i :: is, _, _, _, _, .nil, r => by simpa [vsAll, setAll] using r
  | i :: is, _, _, _, _, .cons rv t, r => set_run is t (r.setD rv)
theorem set_runE : ∀ (is : List Nat) {vs : List V} {ds : List PyData} {σ : L2.St} {env : En}, RVs K F vs ds → Rep K pn F H σ env b → Rep K pn F H (vsAll is vs σ) (setAll is ds env) b
  | [], _, _, _, _, _, r => by simpa [vsAll, setAll] using r
  | i :: is, _, _, _, _, .nil, r => by simpa [vsAll, setAll] using r
  | i :: is, _, _, _, _, .cons rv t, r => set_runE is t (r.setD rv)
def sT : Tg → V → List V → L2.St → L2.St
  | .nm i, v, _, σ => σ.set i (some v)
  | .tp is, _, vs, σ => vsAll is vs σ
/-- an item that is walked over: a datum, or (w = false) a pair that is taken apart at once -/
def RVw (K : PySem.W.Frag) (w : Bool) (F H : Hp) (v : V) (d : PyData) : Prop := RV K F v d ∨ (w = false ∧ ∃ a vs ds, v = .ref a ∧ d = .tuple ds ∧ SqT K H a vs ∧ RVs K F vs ds)
theorem gT_run {g : Tg} {w : Bool} {v : V} {d : PyData} {σ : L2.St} {env env' : En} {Q : L2.St → Hp → Prop} (o : Ok pn b F H) (rv : RVw K w F H v d) (hw : w = true ∨ ∃ is, g = .tp is) (h : setT g d env = some env')
    (q : ∀ vs, (RepS K pn F0 H0 F H σ env b → RepS K pn F0 H0 F H (sT g v vs σ) env' b) → (Rep K pn F H σ env b → Rep K pn F H (sT g v vs σ) env' b) → Q (sT g v vs σ) H) : gT K g v σ H Q := by
  cases g with
  | nm i =>
    cases h
    rcases rv with rv | ⟨e, _⟩
    · exact q [] (fun r => r.setD rv) (fun r => r.setD rv)
    · subst e
      rcases hw with e | ⟨_, e⟩ <;> cases e
  | tp is =>
    have two : ∀ a xs ds, v = .ref a → d = .tuple ds → SqT K H a xs → RVs K F xs ds → gT K (.tp is) v σ H Q := fun a xs ds e1 e2 hq r => by
      subst e1 e2
      by_cases hl : ds.length = is.length
      · have h2 : some (setAll is ds env) = some env' := by
          have : setT (.tp is) (.tuple ds) env = some (setAll is ds env) := if_pos hl
          rw [← this]; exact h
        cases h2
        exact ⟨_, _, rfl, hq, by rw [r.len]; exact hl, gs_run is r hl (q _ (fun z => set_run is r z) (fun z => set_runE is r z))⟩
      · have : setT (.tp is) (.tuple ds) env = none := if_neg hl
        rw [this] at h
        cases h
    rcases rv with rv | ⟨_, a, xs, ds, e1, e2, hq, r⟩
    · cases rv with
      | @tup a xs ds hq r => exact two a xs ds rfl rfl (Same.tup o.sub hq.sq) r
      | _ => cases h
    · exact two a xs ds e1 e2 hq r
end
section
variable {X : Cx} {pos : Pos}
abbrev PGt (X : Cx) (e : Expr) (g : Tg) : Prop := PG X e (gT X.K g)
theorem g_nm {i : Nat} {x : Str} (hN : X.N.Nodup) (hi : X.N[i]? = some x) (hx : Loc X.env.scope x) (hf : X.fn x = true ∨ X.env.scope.names.lookup x = some .local := by first | exact .inl rfl | exact .inr rfl) : PGt X (.Name x pos) (.nm i) := pg_name hN hi hx hf
inductive Gs (X : Cx) : List Expr → List Nat → Prop
  | nil : Gs X [] []
  | cons {e : Expr} {es : List Expr} {i : Nat} {is : List Nat} : PG X e (gName i) → (assignEach (e :: es) X.env).map (·.2) = assign e X.env :: (assignEach es X.env).map (·.2) → Gs X es is → Gs X (e :: es) (i :: is)
theorem Gs.pg {es : List Expr} {is : List Nat} (h : Gs X es is) : PGs X es (gs is) := by
  induction h with
  | nil => exact pgs_nil
  | cons h1 h2 _ ih => exact pgs_cons h1 ih h2
theorem g_tp {es : List Expr} {k : Nat} {is : List Nat} (hc : X.calm = true) (h : Gs X es is) (hn : (assignEach es X.env).length = is.length := by rfl) (hst : (assignEach es X.env).findIdx? (·.1) = none := by rfl) : PGt X (.Tuple es k pos) (.tp is) := pg_tup hc h.pg hn hst
end
/-- still: what must stand of the source (m: nothing but what a step may do; else what is settled stays) -/
def Cs (m : Bool) (pn : Pn) (F1 H1 F H : Hp) : Prop := match m with
  | true => Ext pn F1 H1 F H
  | false => Same F1 F
theorem Cs.same {m : Bool} {pn : Pn} {F1 H1 F H : Hp} (h : Cs m pn F1 H1 F H) : Same F1 F := match m, h with
  | true, h => h.fsub
  | false, h => h
def ItOk (K : PySem.W.Frag) (pn : Pn) (w : Bool) (C : Hp → Hp → Prop) (J : It) (items : List PyData) : Prop :=
  ∀ (i : Nat) (F H : Hp) (b : Nat), Ok pn b F H → C F H → (i < items.length → J.go i H) ∧ (items.length ≤ i → J.stop i H) ∧
    ∀ (x : V) (H' : Hp), J.yld i H x H' → i < items.length → ∃ F' d, items[i]? = some d ∧ RVw K w F' H' x d ∧ Ok pn b F' H' ∧ Ext pn F H F' H'
abbrev WI := En → Nat → (List PyData → Nat → Prop) → Prop
def lI (K : PySem.W.Frag) (m w : Bool) (t : WI) : TI := fun σ H R => ∃ pn F env b P, Rep K pn F H σ env b ∧ t env b P ∧
  ∀ items F' H' b' J, Ok pn b' F' H' → Ext pn F H F' H' → ItOk K pn w (Cs m pn F' H') J items → P items b' → R J H'
section
variable {X : Cx} {tg e : Expr}
theorem PI.imp {t u : TI} (h : PI X tg e t) (i : ∀ σ H R, u σ H R → t σ H R) : PI X tg e u := ⟨fun pins s σ H R I q => h.run pins s σ H R I (i _ _ _ q)⟩
theorem it_list {K : PySem.W.Frag} {pn : Pn} {C : Hp → Hp → Prop} {a : Addr} {items : List PyData} (h : ∀ F H b, Ok pn b F H → C F H → ∃ vs, H a = some (.lst vs) ∧ RVs K F vs items) : ItOk K pn true C (Itl K a) items := fun i F H b o c => by
  obtain ⟨vs, ha, r⟩ := h F H b o c
  refine ⟨fun hi => ?_, fun hi => ⟨vs, SqL.of ha, by rw [r.len]; exact hi⟩, fun x H' y hi => ?_⟩
  · obtain ⟨v, hv, _⟩ := r.at' (List.getElem?_eq_getElem hi)
    exact ⟨vs, v, SqL.of ha, hv⟩
  · obtain ⟨rfl, y⟩ := y
    obtain ⟨v, hv, rv⟩ := r.at' (List.getElem?_eq_getElem hi)
    have e1 := y vs (SqL.of ha)
    rw [hv] at e1
    cases e1
    exact ⟨F, _, List.getElem?_eq_getElem hi, .inl rv, o, .refl⟩
theorem it_tup {K : PySem.W.Frag} {pn : Pn} {C : Hp → Hp → Prop} {a : Addr} {items : List PyData} (h : ∀ F H b, Ok pn b F H → C F H → ∃ vs, SqT K H a vs ∧ RVs K F vs items) : ItOk K pn true C (Itt K a) items := fun i F H b o c => by
  obtain ⟨vs, ha, r⟩ := h F H b o c
  refine ⟨fun hi => ?_, fun hi => ⟨vs, ha, by rw [r.len]; exact hi⟩, fun x H' y hi => ?_⟩
  · obtain ⟨v, hv, _⟩ := r.at' (List.getElem?_eq_getElem hi)
    exact ⟨vs, v, ha, hv⟩
  · obtain ⟨rfl, y⟩ := y
    obtain ⟨v, hv, rv⟩ := r.at' (List.getElem?_eq_getElem hi)
    have e1 := y vs ha
    rw [hv] at e1
    cases e1
    exact ⟨F, _, List.getElem?_eq_getElem hi, .inl rv, o, .refl⟩
def signs (z : Str) : List PyData := z.cps.toList.map fun c => .str ⟨#[c]⟩
theorem it_str {K : PySem.W.Frag} {pn : Pn} {C : Hp → Hp → Prop} {z : Str} : ItOk K pn true C (Its z) (signs z) := fun i F H b o c => by
  have hl : (signs z).length = z.cps.size := by simp [signs]
  refine ⟨fun hi => by rw [hl] at hi; exact hi, fun hi => by rw [hl] at hi; exact hi, fun x H' y hi => ?_⟩
  obtain ⟨rfl, c, hc, rfl⟩ := y
  refine ⟨F, .str ⟨#[c]⟩, ?_, .inl (.str _), o, .refl⟩
  unfold signs
  rw [List.getElem?_map, Array.getElem?_toList, hc]
  rfl
def seqOf : PyData → Option (List PyData)
  | .list xs => some xs
  | .tuple xs => some xs
  | .str z => some (signs z)
  | _ => none
def wSeq (t : WE) : WI := fun env b P => t env b fun x b1 => match seqOf x with | some xs => P xs b1 | none => False
/-- a list, a tuple, a text -/
def iAny (K : PySem.W.Frag) (te : TE) : TI := fun σ H R => te σ H fun x H1 => (∃ a, x = .ref a ∧ (∃ xs, SqL K H1 a xs) ∧ R (Itl K a) H1) ∨ (∃ a, x = .ref a ∧ (∃ xs, SqT K H1 a xs) ∧ R (Itt K a) H1) ∨ ∃ z, x = .str z ∧ R (Its z) H1
theorem i_any {te : TE} (hl : PE X e te) : PI X tg e (iAny X.K te) := by
  refine ⟨fun pins s σ H R I h => ?_⟩
  refine thn (hl.run pins s σ H _ I h) fun v s1 q => ?_
  obtain ⟨x, H1, I1, r1, q1⟩ := q
  rcases q1 with ⟨a, rfl, ⟨xs, hq⟩, q⟩ | ⟨a, rfl, ⟨xs, hq⟩, q⟩ | ⟨z, rfl, q⟩
  · cases r1
    obtain ⟨its, rv, p, hz⟩ := I1.list hq
    exact wpAny_pyIter_list p.isList (pi_one (tk := s1.toks) I1 _ (turn_list a _) ⟨_, Heap.get?_push_size _ rfl, rfl, rfl⟩ q)
  · cases r1
    obtain ⟨its, rv, p, hz⟩ := I1.tuple hq
    exact wpAny_pyIter_tuple (show s1.heap.IsTuple a its.toArray from p) (pi_one (tk := s1.toks) I1 _ (turn_tuple a _) ⟨_, Heap.get?_push_size _ rfl, rfl, rfl⟩ q)
  · obtain ⟨t, rfl⟩ := r1
    cases ha : z.cps.all (· < 128)
    · exact wpAny_pyIter_wide ha (pi_one (tk := s1.toks) I1 _ (turn_str _ z t "str_iterator" (.inr rfl)) ⟨_, Heap.get?_push_size _ rfl, rfl, rfl⟩ q)
    · exact wpAny_pyIter_ascii ha (pi_one (tk := s1.toks) I1 _ (turn_str _ z t "str_ascii_iterator" (.inl rfl)) ⟨_, Heap.get?_push_size _ rfl, rfl, rfl⟩ q)
/-- .. that is settled -/
theorem i_seq {t : WE} (m : Bool) (h : EE X e t) : PI X tg e (lI X.K m true (wSeq t)) := PI.imp (i_any h) fun σ H R ⟨pn, F, env, b, P, rep, w, k⟩ => by
  refine ⟨pn, F, env, b, _, rep, w, fun v x F1 H1 b1 o1 e1 rv t1 => ?_⟩
  cases rv with
  | lst h r => exact .inl ⟨_, rfl, ⟨_, SqL.of (o1.sub _ _ h)⟩, k _ F1 H1 b1 _ o1 e1 (it_list fun F H b o c => ⟨_, o.sub _ _ (c.same _ _ h), r.mono c.same⟩) t1⟩
  | tup h r => exact .inr (.inl ⟨_, rfl, ⟨_, Same.tup o1.sub h.sq⟩, k _ F1 H1 b1 _ o1 e1 (it_tup fun F H b o c => ⟨_, Same.tup o.sub (Same.tup c.same h.sq), r.mono c.same⟩) t1⟩)
  | str z => exact .inr (.inr ⟨z, rfl, k _ F1 H1 b1 _ o1 e1 it_str t1⟩)
  | _ => exact t1.elim
/-- .. or a list of one's own -/
theorem i_seqB {t : WE} (h : EB X e t) : PI X tg e (lI X.K true true (wSeq t)) := PI.imp (i_any h) fun σ H R ⟨pn, F, env, b, P, rep, w, k⟩ => by
  refine ⟨pn, F, env, b, _, rep, w, fun v x F1 H1 b1 o1 e1 bv t1 => ?_⟩
  rcases bv with rv | ⟨xs, rfl, a, vs, rfl, f, np, nc, ha, r⟩
  · cases rv with
    | lst h r => exact .inl ⟨_, rfl, ⟨_, SqL.of (o1.sub _ _ h)⟩, k _ F1 H1 b1 _ o1 e1 (it_list fun F H b o c => ⟨_, o.sub _ _ (c.fsub _ _ h), r.mono c.fsub⟩) t1⟩
    | tup h r => exact .inr (.inl ⟨_, rfl, ⟨_, Same.tup o1.sub h.sq⟩, k _ F1 H1 b1 _ o1 e1 (it_tup fun F H b o c => ⟨_, Same.tup o.sub (Same.tup c.fsub h.sq), r.mono c.fsub⟩) t1⟩)
    | str z => exact .inr (.inr ⟨z, rfl, k _ F1 H1 b1 _ o1 e1 it_str t1⟩)
    | _ => exact t1.elim
  · exact .inl ⟨a, rfl, ⟨vs, SqL.of ha⟩, k _ F1 H1 b1 _ o1 e1 (it_list fun F H b o c => ⟨vs, (c.keep _ _ ha f np).1, r.mono c.fsub⟩) t1⟩
/-- range(n), range(i, j) -/
def rngD (lo : Int) (n : Nat) : List PyData := (List.range n).map fun (i : Nat) => .int (lo + i)
theorem it_rng {K : PySem.W.Frag} {pn : Pn} {C : Hp → Hp → Prop} {lo : Int} {n : Nat} : ItOk K pn true C (Itr lo n) (rngD lo n) := fun i F H b o c => by
  have hl : (rngD lo n).length = n := by simp [rngD]
  refine ⟨fun hi => by rw [hl] at hi; exact hi, fun hi => by rw [hl] at hi; exact hi, fun x H' y hi => ?_⟩
  obtain ⟨rfl, rfl⟩ := y
  rw [hl] at hi
  refine ⟨F, .int (lo + i), ?_, .inl (.int _), o, .refl⟩
  unfold rngD
  rw [List.getElem?_map, List.getElem?_range hi]
  rfl
def wRng1 (t : WE) : WI := fun env b P => t env b fun x b1 => match x with | .int j => -(2 ^ 62) ≤ j ∧ j < 2 ^ 62 ∧ P (rngD 0 j.toNat) b1 | _ => False
theorem i_rng1 {a : Expr} {t : WE} {p pos : Pos} (m : Bool) (hg : Gl X "range") (hm : X.mg "range" = none) (ha : EB X a t) (hs : starEach [a] X.env = [(false, eval a X.env)] := by rfl) : PI X tg (.Call (.Name "range" p) [a] [] pos) (lI X.K m true (wRng1 t)) :=
  PI.imp (pi_range1 hg hm (pa_cons ha pa_nil hs) hs) fun σ H R ⟨pn, F, env, b, P, rep, w, k⟩ => by
    refine ⟨pn, F, env, b, _, rep, w, fun v x F1 H1 b1 o1 e1 bv t1 => ?_⟩
    cases x with
    | int j => exact ⟨j, by rw [bv.int], t1.1, t1.2.1, k _ F1 H1 b1 _ o1 e1 it_rng t1.2.2⟩
    | _ => exact t1.elim
/-- enumerate(list) -/
def enumD (xs : List PyData) : List PyData := xs.zipIdx.map fun p => .tuple [.int (p.2 : Nat), p.1]
theorem enumD_at {xs : List PyData} {i : Nat} {d : PyData} (h : xs[i]? = some d) : (enumD xs)[i]? = some (.tuple [.int (i : Nat), d]) := by
  unfold enumD
  rw [List.getElem?_map, List.getElem?_zipIdx, h]
  simp
theorem it_enum {K : PySem.W.Frag} {pn : Pn} {C : Hp → Hp → Prop} {a : Addr} {items : List PyData} (h : ∀ F H b, Ok pn b F H → C F H → ∃ vs, H a = some (.lst vs) ∧ RVs K F vs items) : ItOk K pn false C (Ite K a) (enumD items) := fun i F H b o c => by
  obtain ⟨vs, ha, r⟩ := h F H b o c
  have hl : (enumD items).length = items.length := by simp [enumD]
  refine ⟨fun hi => ?_, fun hi => ⟨vs, SqL.of ha, by rw [r.len, ← hl]; exact hi⟩, fun x H' y hi => ?_⟩
  · obtain ⟨v, hv, _⟩ := r.at' (List.getElem?_eq_getElem (by rw [← hl]; exact hi))
    exact ⟨vs, v, SqL.of ha, hv⟩
  · obtain ⟨T, w, rfl, nT, rfl, y⟩ := y
    have hi' : i < items.length := by rw [← hl]; exact hi
    obtain ⟨v, hv, rv⟩ := r.at' (List.getElem?_eq_getElem hi')
    have e1 := y vs (SqL.of ha)
    rw [hv] at e1
    cases e1
    exact ⟨_, _, enumD_at (List.getElem?_eq_getElem hi'), .inr ⟨rfl, T, _, _, rfl, rfl, SqT.of upd_same, .cons (.int _) (.one (rv.mono (same_new (o.free nT))))⟩, o.new nT, .new o nT⟩
/-- zip(a, b): two lists or two tuples -/
def zipD : List PyData → List PyData → List PyData
  | x :: xs, y :: ys => .tuple [x, y] :: zipD xs ys
  | _, _ => []
theorem zipD_at : ∀ {xs ys : List PyData} {i : Nat} {x y : PyData}, xs[i]? = some x → ys[i]? = some y → (zipD xs ys)[i]? = some (.tuple [x, y])
  | [], _, _, _, _, h, _ => by simp at h
  | _ :: _, [], _, _, _, _, h => by simp at h
  | _ :: _, _ :: _, 0, _, _, h, h2 => by simp at h h2; subst h; subst h2; rfl
  | _ :: xs, _ :: ys, i + 1, _, _, h, h2 => by
    have := zipD_at (xs := xs) (ys := ys) (i := i) (by simpa using h) (by simpa using h2)
    simpa [zipD] using this
theorem zipD_len : ∀ (xs ys : List PyData), (zipD xs ys).length = min xs.length ys.length
  | [], _ => by simp [zipD]
  | _ :: _, [] => by simp [zipD]
  | _ :: xs, _ :: ys => by simp [zipD, zipD_len xs ys]
def wZip (t u : WE) : WI := fun env b P => t env b fun x b1 => u env b1 fun y b2 => match x, y with
  | .list xs, .list ys => P (zipD xs ys) b2
  | .tuple xs, .tuple ys => P (zipD xs ys) b2
  | _, _ => False
theorem it_zip {K : PySem.W.Frag} {pn : Pn} {C : Hp → Hp → Prop} {a c : Addr} {xs ys : List PyData} (h : ∀ F H b, Ok pn b F H → C F H → ∃ vs us, H a = some (.lst vs) ∧ RVs K F vs xs ∧ H c = some (.lst us) ∧ RVs K F us ys) : ItOk K pn false C (Itz K a c) (zipD xs ys) := fun i F H b o cc => by
  obtain ⟨vs, us, ha, r, hc, r2⟩ := h F H b o cc
  refine ⟨fun hi => ?_, fun hi => ⟨vs, us, SqL.of ha, SqL.of hc, by rw [zipD_len] at hi; rw [r.len, r2.len]; omega⟩, fun x H' y hi => ?_⟩
  · rw [zipD_len] at hi
    obtain ⟨v, hv, _⟩ := r.at' (List.getElem?_eq_getElem (show i < xs.length by omega))
    obtain ⟨u, hu, _⟩ := r2.at' (List.getElem?_eq_getElem (show i < ys.length by omega))
    exact ⟨vs, us, v, u, SqL.of ha, SqL.of hc, hv, hu⟩
  · rw [zipD_len] at hi
    obtain ⟨T, w1, w2, rfl, nT, rfl, y1, y2⟩ := y
    have l1 : i < xs.length := by omega
    have l2 : i < ys.length := by omega
    obtain ⟨v, hv, rv⟩ := r.at' (List.getElem?_eq_getElem l1)
    obtain ⟨u, hu, ru⟩ := r2.at' (List.getElem?_eq_getElem l2)
    have e1 := y1 vs (SqL.of ha)
    have e2 := y2 us (SqL.of hc)
    rw [hv] at e1
    rw [hu] at e2
    cases e1
    cases e2
    exact ⟨_, _, zipD_at (List.getElem?_eq_getElem l1) (List.getElem?_eq_getElem l2), .inr ⟨rfl, T, _, _, rfl, rfl, SqT.of upd_same, .cons (rv.mono (same_new (o.free nT))) (.one (ru.mono (same_new (o.free nT))))⟩, o.new nT, .new o nT⟩
theorem it_zipT {K : PySem.W.Frag} {pn : Pn} {C : Hp → Hp → Prop} {a c : Addr} {xs ys : List PyData} (h : ∀ F H b, Ok pn b F H → C F H → ∃ vs us, SqT K H a vs ∧ RVs K F vs xs ∧ SqT K H c us ∧ RVs K F us ys) : ItOk K pn false C (RZ.ItzT K a c) (zipD xs ys) := fun i F H b o cc => by
  obtain ⟨vs, us, ha, r, hc, r2⟩ := h F H b o cc
  refine ⟨fun hi => ?_, fun hi => ⟨vs, us, ha, hc, by rw [zipD_len] at hi; rw [r.len, r2.len]; omega⟩, fun x H' y hi => ?_⟩
  · rw [zipD_len] at hi
    obtain ⟨v, hv, _⟩ := r.at' (List.getElem?_eq_getElem (show i < xs.length by omega))
    obtain ⟨u, hu, _⟩ := r2.at' (List.getElem?_eq_getElem (show i < ys.length by omega))
    exact ⟨vs, us, v, u, ha, hc, hv, hu⟩
  · rw [zipD_len] at hi
    obtain ⟨T, w1, w2, rfl, nT, rfl, y1, y2⟩ := y
    have l1 : i < xs.length := by omega
    have l2 : i < ys.length := by omega
    obtain ⟨v, hv, rv⟩ := r.at' (List.getElem?_eq_getElem l1)
    obtain ⟨u, hu, ru⟩ := r2.at' (List.getElem?_eq_getElem l2)
    have e1 := y1 vs ha
    have e2 := y2 us hc
    rw [hv] at e1
    rw [hu] at e2
    cases e1
    cases e2
    exact ⟨_, _, zipD_at (List.getElem?_eq_getElem l1) (List.getElem?_eq_getElem l2), .inr ⟨rfl, T, _, _, rfl, rfl, SqT.of upd_same, .cons (rv.mono (same_new (o.free nT))) (.one (ru.mono (same_new (o.free nT))))⟩, o.new nT, .new o nT⟩
end
end Pu
namespace Pu
open PySem PySem.Spec PyProof.Rows L2
def sNext : WS := fun PD env b => PD.nx env b
def sSeq (t u : WS) : WS := fun PD env b => t { PD with nx := fun env' b' => u PD env' b' } env b
def sRet (t : WE) : WS := fun PD env b => t env b PD.rt
def sIf (c : WT) (t u : WS) : WS := fun PD env b => c env b fun k b' => if k = true then t PD env b' else u PD env b'
def sAsg (t : WE) (g : Tg) : WS := fun PD env b => t env b fun d b' => match setT g d env with | some env' => PD.nx env' b' | none => False
def sSet (t : WE) (i : Nat) : WS := fun PD env b => t env b fun d b' => PD.nx (env.set i (some (.d d))) b'
def sSetL (t : WF) (i : Nat) : WS := fun PD env b => t env b fun d b' => PD.nx (env.set i (some (.l d))) b'
def sApp (i : Nat) (t : WE) : WS := fun PD env b => match env[i]? with
  | some (some (.l xs)) => t env b fun d b' => xs.length < sizeLine ∧ PD.nx (env.set i (some (.l (xs ++ [d])))) b'
  | _ => False
/-- what a read may end in: the list a name holds, settled as it is handed back -/
def sRetN (i : Nat) : WS := fun PD env b => match env[i]? with
  | some (some (.d x)) => PD.rt x b
  | some (some (.l xs)) => PD.rt (.list xs) b
  | _ => False
section
variable {X : Cx} {st : Stmt} {rest : List Stmt} {t u : WS} {e : Expr} {te : WE} {pos : Pos}
theorem sb_nil : SB X [] sNext := PSs.imp pss_nil fun D σ H ⟨pn, F0, H0, F, env, b, PD, rep, t, k, _⟩ => (k σ F H env b rep).1 t
theorem lS_in {K : PySem.W.Frag} {t u : WS} {D : Ends} {σ : L2.St} {H : Hp} (h : lS K (sSeq t u) D σ H) : tSeq (lS K t) (lS K u) D σ H := by
  obtain ⟨pn, F0, H0, F, env, b, PD, rep, w, k, r⟩ := h
  refine ⟨pn, F0, H0, F, env, b, { PD with nx := fun env' b' => u PD env' b' }, rep, w, fun σ' F' H' env' b' rep' => ⟨fun q => ?_, (k σ' F' H' env' b' rep').2.1, (k σ' F' H' env' b' rep').2.2⟩, r⟩
  exact ⟨pn, F0, H0, F', env', b', PD, rep', q, k, r⟩
theorem sb_cons (h1 : SS X st t) (h2 : SB X rest u) : SB X (st :: rest) (sSeq t u) := PSs.imp (pss_cons h1 h2) fun _ _ _ h => lS_in h
theorem sb_one (h1 : SS X st t) : SB X [st] t := pss_one h1
theorem s_ret (he : EE X e te) : SS X (.Return (some e) pos) (sRet te) := PS.imp (ps_ret he) fun D σ H ⟨pn, F0, H0, F, env, b, PD, rep, t, k, r⟩ =>
  ⟨pn, F, env, b, PD.rt, rep.rep, t, fun v d F' H' b' o x rv q => r.1 v d F' H' b' o (rep.ext.trans x) rv q⟩
theorem s_retN {i : Nat} {x : Str} {p : Pos} (h : PE X (.Name x p) (tVar i)) : SS X (.Return (some (.Name x p)) pos) (sRetN i) := PS.imp (ps_ret h) fun D σ H ⟨pn, F0, H0, F, env, b, PD, rep, t, k, r⟩ => by
  unfold sRetN at t
  split at t
  · rename_i y h
    obtain ⟨v, h1, h2⟩ := rep.rep.slot i _ h
    exact ⟨v, h1, r.1 v y F H b rep.rep.ok rep.ext h2 t⟩
  · rename_i ys h
    obtain ⟨v, h1, a, vs, rfl, fa, np, nc, ha, rv⟩ := rep.rep.slot i _ h
    have n0 := rep.own i a _ rfl h h1
    refine ⟨_, h1, r.1 _ _ (upd F a (.lst vs)) H b (rep.rep.ok.settle ha fa np nc) ⟨rep.ext.fsub.trans (same_new fa), fun c o hc fc npc => ?_⟩ (.lst upd_same (rv.mono (same_new fa))) t⟩
    obtain ⟨q1, q2⟩ := rep.ext.keep c o hc fc npc
    exact ⟨q1, by rw [upd_ne (fun z => by rw [z, n0] at hc; cases hc)]; exact q2⟩
  · exact t.elim
theorem s_if {c : Expr} {p q : List Stmt} {tc : WT} (hc : ET X c tc) (ha : SB X p t) (hb : SB X q u) : SS X (.If c p q pos) (sIf tc t u) := PS.imp (ps_if hc ha hb) fun D σ H ⟨pn, F0, H0, F, env, b, PD, rep, w, k, r⟩ => by
  refine ⟨pn, F, env, b, _, rep.rep, w, fun kc F1 H1 b1 o1 e1 t1 => ?_⟩
  cases kc with
  | true => exact ⟨pn, F0, H0, F1, env, b1, PD, rep.ext' o1 e1, t1, k, r⟩
  | false => exact ⟨pn, F0, H0, F1, env, b1, PD, rep.ext' o1 e1, t1, k, r⟩
theorem s_asg {tg : Expr} {g : Tg} (he : EE X e te) (hg : PGt X tg g) (hs : swapsWithSole [tg] e pos.line X.env = pure false := by rfl) (hw : swappedStores [tg] e X.env = pure none := by rfl) (h1 : (assignEach [tg] X.env).map (·.2) = [assign tg X.env] := by rfl) :
    SS X (.Assign [tg] e pos) (sAsg te g) := PS.imp (ps_asg he hg hs hw h1) fun D σ H ⟨pn, F0, H0, F, env, b, PD, rep, t, k, r⟩ => by
  refine ⟨pn, F, env, b, _, rep.rep, t, fun v d F' H' b' o x rv q => ?_⟩
  split at q
  · rename_i env' h
    exact gT_run (w := true) (F0 := F0) (H0 := H0) o (.inl rv) (.inl rfl) h fun vs c1 _ => (k _ F' H' env' b' (c1 (rep.ext' o x))).1 q
  · exact q.elim
theorem s_set {i : Nat} {x : Str} {pos' : Pos} (hN : X.N.Nodup) (hi : X.N[i]? = some x) (hx : Loc X.env.scope x) (he : EE X e te) (hs : swapsWith e (some (.Name x pos')) pos.line X.env = pure false := by rfl) (hf : X.fn x = true ∨ X.env.scope.names.lookup x = some .local := by first | exact .inl rfl | exact .inr rfl) :
    SS X (.Assign [.Name x pos'] e pos) (sSet te i) := PS.imp (ps_set hN hi hx he hs hf) fun D σ H ⟨pn, F0, H0, F, env, b, PD, rep, t, k, r⟩ =>
  ⟨pn, F, env, b, _, rep.rep, t, fun v d F' H' b' o x rv q => (k _ F' H' _ b' ((rep.ext' o x).setD rv)).1 q⟩
theorem Ext.bk {pn : Pn} {b' : Nat} {F H F' H' : Hp} (x : Ext pn F H F' H') (o' : Ok pn b' F' H') {a : Addr} (h : H' a = none) : H a = none := by
  cases e : H a with
  | none => rfl
  | some u =>
    exfalso
    cases f : F a with
    | some z =>
      have := o'.sub a z (x.fsub a z f)
      rw [h] at this; cases this
    | none =>
      by_cases n : NotPen pn a
      · have := (x.keep a u e f n).1
        rw [h] at this; cases this
      · apply n
        intro pa ca q z
        subst q
        obtain ⟨_, _, _, _, _, _, h1, _⟩ := o'.pen
        rw [← z, h] at h1; cases h1
/-- a fresh list's address is nobody's -/
theorem RepS.fresh {K : PySem.W.Frag} {pn : Pn} {b : Nat} {F0 H0 F H : Hp} {σ : L2.St} {env : En} (rep : RepS K pn F0 H0 F H σ env b) {v : V} (nw : ∀ a, v = .ref a → H a = none) :
    ∀ a, v = .ref a → H0 a = none ∧ ∀ (j : Nat) (ys : List PyData), (env[j]? = some (some (Sl.l ys)) ∨ env[j]? = some (some (Sl.r ys))) → σ[j]? ≠ some (some (V.ref a)) := by
  intro a ea
  have ha := nw a ea
  refine ⟨rep.ext.bk rep.rep.ok ha, fun j ys h z => ?_⟩
  rcases h with h | h
  all_goals
    obtain ⟨w, hw, c, vs, rfl, _, _, _, hc, _⟩ := rep.rep.slot j _ h
    rw [z] at hw
    cases hw
    rw [ha] at hc; cases hc
theorem s_setL {tf : WF} {i : Nat} {x : Str} {pos' : Pos} (hN : X.N.Nodup) (hi : X.N[i]? = some x) (hx : Loc X.env.scope x) (he : EF X e tf) (hs : swapsWith e (some (.Name x pos')) pos.line X.env = pure false := by rfl) (hf : X.fn x = true ∨ X.env.scope.names.lookup x = some .local := by first | exact .inl rfl | exact .inr rfl) :
    SS X (.Assign [.Name x pos'] e pos) (sSetL tf i) := PS.imp (ps_set hN hi hx he hs hf) fun D σ H ⟨pn, F0, H0, F, env, b, PD, rep, t, k, r⟩ =>
  ⟨pn, F, env, b, _, rep.rep, t, fun v d F' H' b' o x ow nw q => by
    have f1 := rep.fresh nw
    exact (k _ F' H' _ b' ((rep.ext' o x).setL ow f1)).1 q⟩
def sPar (i j : Nat) (t u : WE) : WS := fun PD env b => t env b fun x b1 => u env b1 fun y b2 => PD.nx ((env.set i (some (.d x))).set j (some (.d y))) b2
def sParL (i j : Nat) (t : WE) (u : WF) : WS := fun PD env b => t env b fun x b1 => u env b1 fun y b2 => PD.nx ((env.set i (some (.d x))).set j (some (.l y))) b2
variable {a c : Expr} {ta tb : WE} {tf : WF} {x y z : Str} {px py pz pt : Pos} {kt k2 : Nat} {pt2 : Pos} {i j l : Nat}
theorem s_par (hc : X.calm = true) (hN : X.N.Nodup) (hi : X.N[i]? = some x) (hj : X.N[j]? = some y) (hij : i ≠ j) (hx : X.env.scope.names.lookup x = some .local) (hy : X.env.scope.names.lookup y = some .local) (ha : EE X a ta) (hb : EE X c tb)
    (hw : swappedStores [.Tuple [.Name x px, .Name y py] kt pt] (.Tuple [a, c] k2 pt2) X.env = pure (some [x, y])) (hs : swapsWithSole [.Tuple [.Name x px, .Name y py] kt pt] (.Tuple [a, c] k2 pt2) pos.line X.env = pure false := by rfl)
    (h1 : starEach [a, c] X.env = (false, eval a X.env) :: starEach [c] X.env := by rfl) (h2 : starEach [c] X.env = (false, eval c X.env) :: starEach [] X.env := by rfl) :
    SS X (.Assign [.Tuple [.Name x px, .Name y py] kt pt] (.Tuple [a, c] k2 pt2) pos) (sPar i j ta tb) := PS.imp (ps_par hc hN hi hj hij hx hy (pa_cons ha (pa_cons hb pa_nil h2) h1) hw hs) fun D σ H ⟨pn, F0, H0, F, env, b, PD, rep, t, k, r⟩ => by
  refine ⟨pn, F, env, b, _, rep.rep, t, fun v d F1 H1 b1 o1 x1 rv t1 => ?_⟩
  refine ⟨pn, F1, env, b1, _, rep.rep.ext o1 x1, t1, fun u e F2 H2 b2 o2 x2 ru t2 => ?_⟩
  exact ⟨v, u, rfl, (k _ F2 H2 _ b2 ((((rep.ext' o1 x1).ext' o2 x2).setD (rv.mono x2.fsub)).setD ru)).1 t2⟩
theorem s_parL (hc : X.calm = true) (hN : X.N.Nodup) (hi : X.N[i]? = some x) (hj : X.N[j]? = some y) (hij : i ≠ j) (hx : X.env.scope.names.lookup x = some .local) (hy : X.env.scope.names.lookup y = some .local) (ha : EE X a ta) (hb : EF X c tf)
    (hw : swappedStores [.Tuple [.Name x px, .Name y py] kt pt] (.Tuple [a, c] k2 pt2) X.env = pure (some [x, y])) (hs : swapsWithSole [.Tuple [.Name x px, .Name y py] kt pt] (.Tuple [a, c] k2 pt2) pos.line X.env = pure false := by rfl)
    (h1 : starEach [a, c] X.env = (false, eval a X.env) :: starEach [c] X.env := by rfl) (h2 : starEach [c] X.env = (false, eval c X.env) :: starEach [] X.env := by rfl) :
    SS X (.Assign [.Tuple [.Name x px, .Name y py] kt pt] (.Tuple [a, c] k2 pt2) pos) (sParL i j ta tf) := PS.imp (ps_par hc hN hi hj hij hx hy (pa_cons ha (pa_cons hb pa_nil h2) h1) hw hs) fun D σ H ⟨pn, F0, H0, F, env, b, PD, rep, t, k, r⟩ => by
  refine ⟨pn, F, env, b, _, rep.rep, t, fun v d F1 H1 b1 o1 x1 rv t1 => ?_⟩
  have rep1 := rep.ext' o1 x1
  refine ⟨pn, F1, env, b1, _, rep1.rep, t1, fun u e F2 H2 b2 o2 x2 ow nw t2 => ?_⟩
  have f1 := rep1.fresh nw
  refine ⟨v, u, rfl, (k _ F2 H2 _ b2 (((rep1.ext' o2 x2).setD (rv.mono x2.fsub)).setL ow fun q eq => ⟨(f1 q eq).1, fun m ys h => ?_⟩)).1 t2⟩
  have mi : m ≠ i := fun e => by
    subst e
    rcases h with h | h
    all_goals
      have hl : m < env.length := by have := (List.getElem?_eq_some_iff.mp h).1; simpa using this
      rw [List.getElem?_set_self hl] at h
      cases h
  rw [List.getElem?_set_ne (Ne.symm mi)] at h ⊢
  exact (f1 q eq).2 m ys h
/-- xs.append(e) -/
theorem s_app {i : Nat} {x : Str} {p apos cpos : Pos} (h : PE X (.Name x p) (tVar i)) (he : EE X e te) (hb : attributeBase (.Name x p) "append" X.env (eval (.Name x p) X.env) = eval (.Name x p) X.env := by rfl)
    (hfew : ((backTo cpos (starEach [e] X.env)).all (fun x => !x.1) && (backToKw cpos (keywordEach [] X.env)).all (fun x => x.1.isSome) && decide ([e].length + ([] : List Keyword).length + (if ([] : List Keyword).isEmpty then 0 else 1) < 30)) = true := by rfl)
    (hl : (apos.endLine == cpos.line) = true := by rfl) (hs : starEach [e] X.env = (false, eval e X.env) :: starEach [] X.env := by rfl) (hp : (backTo cpos (starEach [] X.env)).any (·.1) = false := by rfl)
    (hw : swapsWith (.Call (.Attribute (.Name x p) "append" apos) [e] [] cpos) none pos.line X.env = pure false := by rfl) :
    SS X (.Expr (.Call (.Attribute (.Name x p) "append" apos) [e] [] cpos) pos) (sApp i te) :=
  PS.imp (ps_expr (pe_bm PySem.F.plainAttrs_list PySem.F.slot_list_append PySem.F.type_list_append mt_append h (pa_cons he pa_nil hs) hb hfew hl hs hp) hw) fun D σ H ⟨pn, F0, H0, F, env, b, PD, rep, t, k, r⟩ => by
    unfold sApp at t
    split at t
    · rename_i xs hx
      obtain ⟨v, hv, ow⟩ := rep.rep.slot i _ hx
      obtain ⟨a, vs, rfl, fa, np, nc, ha, rvs⟩ := id ow
      refine ⟨.ref a, hv, .inl ⟨rfl, vs, SqL.of ha⟩, pn, F, env, b, _, rep.rep, t, fun w d F1 H1 b1 o1 x1 rv q => ?_⟩
      obtain ⟨ha1, fa1⟩ := x1.keep a _ ha fa np
      exact ⟨a, vs, w, rfl, rfl, ha1, by rw [rvs.len]; exact q.1, (k σ F1 _ _ b1 ((rep.ext' o1 x1).write hx hv ((rvs.mono x1.fsub).app (.one rv)))).1 q.2⟩
    · exact t.elim
end
def hU (H0 F1 : Hp) : Hp := fun a => match F1 a with
  | some o => some o
  | none => H0 a
section
variable {K : PySem.W.Frag} {pn : Pn} {b : Nat} {F0 H0 F1 H1 F H : Hp} {σ : L2.St} {env : En}
theorem hU_none {a : Addr} (h : F1 a = none) : hU H0 F1 a = H0 a := by unfold hU; rw [h]
theorem Ext.down (x : Ext pn F0 H0 F1 H1) (y : Ext pn F1 (hU H0 F1) F H) : Ext pn F0 H0 F H :=
  ⟨x.fsub.trans y.fsub, fun a o h f n => by
    have f1 := (x.keep a o h f n).2
    exact y.keep a o (by rw [hU_none f1]; exact h) f1 n⟩
theorem Ext.up (x : Ext pn F0 H0 F1 H1) (y : Ext pn F0 H0 F H) (s : Same F1 F) : Ext pn F1 (hU H0 F1) F H :=
  ⟨s, fun a o h f n => by
    rw [hU_none f] at h
    exact y.keep a o h (x.fsub.free f) n⟩
theorem RepS.up (x : Ext pn F0 H0 F1 H1) (r : RepS K pn F0 H0 F H σ env b) (s : Same F1 F) : RepS K pn F1 (hU H0 F1) F H σ env b :=
  ⟨r.rep, x.up r.ext s, fun i a s' hq h1 h2 => by
    have h3 := r.own i a s' hq h1 h2
    obtain ⟨v, hv, sl⟩ := r.rep.slot i _ h1
    rw [h2] at hv
    cases hv
    rw [hU_none (s.free (sl.ownF hq))]; exact h3⟩
theorem RepS.down (x : Ext pn F0 H0 F1 H1) (r : RepS K pn F1 (hU H0 F1) F H σ env b) : RepS K pn F0 H0 F H σ env b :=
  ⟨r.rep, x.down r.ext, fun i a s' hq h1 h2 => by
    have h3 := r.own i a s' hq h1 h2
    obtain ⟨v, hv, sl⟩ := r.rep.slot i _ h1
    rw [h2] at hv
    cases hv
    rw [hU_none (r.ext.fsub.free (sl.ownF hq))] at h3; exact h3⟩
end
def wFor (g : Tg) (body : WS) (PD : PEnds) : List PyData → En → Nat → Prop
  | [], env, b => PD.nx env b
  | x :: xs, env, b => match setT g x env with
    | some env' => body { nx := wFor g body PD xs, ct := wFor g body PD xs, bk := PD.nx, rt := PD.rt, rl := PD.rl } env' b
    | none => False
def sFor (t : WI) (g : Tg) (body : WS) : WS := fun PD env b => t env b fun xs b1 => wFor g body PD xs env b1
section
variable {X : Cx} {pos : Pos} {tg iter : Expr} {g : Tg} {body : List Stmt} {ti : WI} {tb : WS}
theorem s_for {iw : Bool} (hp : PassesOwn (model X.prog X.w) X.A X.env X.xe) (hc : X.calm = true) (hi : PI X tg iter (lI X.K false iw ti)) (hg : PGt X tg g) (hb : SB X body tb) (hs : ∀ x, foldedSetIterable iter X.env x = pure x := by intro _; rfl) (hw : iw = true ∨ ∃ is, g = .tp is := by first | exact .inl rfl | exact .inr ⟨_, rfl⟩) :
    SS X (.For tg iter body [] pos) (sFor ti g tb) := PS.imp (ps_for hp hc hi hg hb hs) fun D σ H ⟨pn, F0, H0, F, env, b, PD, rep, t, k, r⟩ => by
  refine ⟨pn, F, env, b, _, rep.rep, t, fun items F1 H1 b1 J o1 x1 it t1 => ?_⟩
  refine ⟨fun i m σ H => ∃ F env b, RepS X.K pn F0 H0 F H σ env b ∧ Same F1 F ∧ i + m = items.length ∧ wFor g tb PD (items.drop i) env b, ⟨items.length, F1, env, b1, rep.ext' o1 x1, Same.refl _, by omega, t1⟩, fun i m σ H hW => ?_⟩
  obtain ⟨F2, env2, b2, rep2, sm, em, w⟩ := hW
  obtain ⟨go, stop, yld⟩ := it i F2 H b2 rep2.rep.ok sm
  by_cases hi : i < items.length
  · refine .inr ⟨go hi, fun σ' H' => ∃ F' env' b', RepS X.K pn F0 H0 F' H' σ' env' b' ∧ Same F1 F' ∧ wFor g tb PD (items.drop (i + 1)) env' b', fun σ' H' hN => ?_, fun x H' hy => ?_⟩
    · obtain ⟨F', env', b', r', s', w'⟩ := hN
      exact ⟨m - 1, by omega, F', env', b', r', s', by omega, w'⟩
    · obtain ⟨F', d, hd, rv, o', x'⟩ := yld x H' hy hi
      rw [List.drop_eq_getElem_cons hi] at w
      have ed : items[i] = d := by
        rw [List.getElem?_eq_getElem hi] at hd
        exact Option.some.inj hd
      rw [ed] at w
      unfold wFor at w
      split at w
      · rename_i env' hset
        refine gT_run (F0 := F0) (H0 := H0) (env := env2) o' rv hw hset fun vs c1 _ => ?_
        have rep3 := c1 (rep2.ext' o' x')
        have s3 := sm.trans x'.fsub
        have x01 := rep.ext.trans x1
        refine ⟨pn, F1, hU H0 F1, F', env', b2, _, rep3.up x01 s3, w, fun σ4 F4 H4 env4 b4 rep4 => ?_, ⟨fun v d F4 H4 b4 o4 x4 rv q => r.1 v d F4 H4 b4 o4 (x01.down x4) rv q, fun v d F4 H4 b4 o4 x4 ow nw q => r.2 v d F4 H4 b4 o4 (x01.down x4) ow (fun a ea => by
          have h3 := nw a ea
          obtain ⟨c, us, ec, fc, _⟩ := ow
          have : a = c := by rw [ea] at ec; exact V.ref.inj ec
          subst this
          rwa [hU_none (x4.fsub.free fc)] at h3) q⟩⟩
        have rep5 := rep4.down x01
        exact ⟨fun q => ⟨F4, env4, b4, rep5, rep4.ext.fsub, q⟩, fun q => (k σ4 F4 H4 env4 b4 rep5).1 q, fun q => ⟨F4, env4, b4, rep5, rep4.ext.fsub, q⟩⟩
      · exact w.elim
  · have e0 : items.drop i = [] := List.drop_of_length_le (by omega)
    rw [e0] at w
    exact .inl ⟨stop (by omega), (k σ F2 H env2 b2 rep2).1 w⟩
def wWhile (c : WT) (body : WS) (PD : PEnds) : Nat → En → Nat → Prop
  | 0, _, _ => False
  | n + 1, env, b => c env b fun k b1 => if k = true then body { nx := wWhile c body PD n, ct := wWhile c body PD n, bk := PD.nx, rt := PD.rt, rl := PD.rl } env b1 else PD.nx env b1
def sWhile (c : WT) (body : WS) : WS := fun PD env b => ∃ n, wWhile c body PD n env b
theorem s_while {c : Expr} {tc : WT} (hp : PassesOwn (model X.prog X.w) X.A X.env X.xe) (hc : ET X c tc) (hb : SB X body tb) : SS X (.While c body [] pos) (sWhile tc tb) := PS.imp (ps_while hp hc hb) fun D σ H ⟨pn, F0, H0, F, env, b, PD, rep, t, k, r⟩ => by
  obtain ⟨n, t⟩ := t
  refine ⟨fun m σ H => ∃ F env b, RepS X.K pn F0 H0 F H σ env b ∧ wWhile tc tb PD m env b, ⟨n, F, env, b, rep, t⟩, fun m σ H hW => ?_⟩
  obtain ⟨F2, env2, b2, rep2, w⟩ := hW
  cases m with
  | zero => exact w.elim
  | succ m =>
    refine ⟨pn, F2, env2, b2, _, rep2.rep, w, fun kc F1 H1 b1 o1 x1 t1 => ?_⟩
    have rep3 := rep2.ext' o1 x1
    cases kc with
    | true =>
      refine ⟨fun σ' H' => ∃ F' env' b', RepS X.K pn F0 H0 F' H' σ' env' b' ∧ wWhile tc tb PD m env' b', fun σ' H' hN => ⟨m, Nat.lt_succ_self m, hN⟩, ?_⟩
      exact ⟨pn, F0, H0, F1, env2, b1, _, rep3, t1, fun σ4 F4 H4 env4 b4 rep4 => ⟨fun q => ⟨F4, env4, b4, rep4, q⟩, fun q => (k σ4 F4 H4 env4 b4 rep4).1 q, fun q => ⟨F4, env4, b4, rep4, q⟩⟩, r⟩
    | false => exact (k σ F1 H1 env2 b1 rep3).1 t1
end
def wipeE (env : En) : List Nat → En
  | [] => env
  | v :: vs => (wipeE env vs).set v none
def wLc (g : Tg) (tt : WT) (te : WE) (own : List Nat) (env : En) : List PyData → Nat → List PyData → (List PyData → Nat → Prop) → Prop
  | [], b, acc, P => P acc b
  | x :: xs, b, acc, P => match setT g x (wipeE env own) with
    | some env' => tt env' b fun k b1 => if k = true then te env' b1 fun y b2 => wLc g tt te own env xs b2 (acc ++ [y]) P else wLc g tt te own env xs b1 acc P
    | none => False
def fLc (t : WI) (g : Tg) (tt : WT) (te : WE) (own : List Nat) : WF := fun env b P => t env b fun xs b1 => xs.length < sizeLine ∧ wLc g tt te own env xs b1 [] P
def wYes : WT := fun _ b P => P true b
abbrev ETs (X : Cx) (ifs : List Expr) (t : WT) : Prop := PTs X ifs (lT X.K t)
def Tg.slots : Tg → List Nat
  | .nm i => [i]
  | .tp is => is
theorem wipe_set {σ : L2.St} {v : V} {i : Nat} : ∀ {vs : List Nat}, i ∈ vs → wipe (σ.set i (some v)) vs = wipe σ vs
  | [], h => by simp at h
  | w :: vs, h => by
    unfold wipe
    by_cases e : i ∈ vs
    · rw [wipe_set e]
    · have hw : i = w := by simpa [e] using h
      subst hw
      have : ∀ (vs : List Nat), i ∉ vs → wipe (σ.set i (some v)) vs = (wipe σ vs).set i (some v) := by
        intro us
        induction us with
        | nil => intro _; rfl
        | cons u us ih =>
          intro hn
          have h1 : i ≠ u := fun z => hn (by simp [z])
          have h2 : i ∉ us := fun z => hn (by simp [z])
          unfold wipe
          rw [ih h2, List.set_comm _ _ h1]
      rw [this vs e, List.set_set]
theorem wipe_vsAll : ∀ (is : List Nat) {vs : List V} {σ : L2.St} {own : List Nat}, (∀ i ∈ is, i ∈ own) → wipe (vsAll is vs σ) own = wipe σ own
  | [], _, _, _, _ => by simp [vsAll]
  | i :: r, [], _, _, _ => by simp [vsAll]
  | i :: r, v :: vs, σ, own, h => by
    unfold vsAll
    rw [wipe_vsAll r (fun j hj => h j (List.mem_cons_of_mem _ hj)), wipe_set (h i List.mem_cons_self)]
theorem wipe_sT {g : Tg} {v : V} {vs : List V} {σ : L2.St} {own : List Nat} (h : ∀ i ∈ g.slots, i ∈ own) : wipe (sT g v vs σ) own = wipe σ own := by
  cases g with
  | nm i => exact wipe_set (h i (by simp [Tg.slots]))
  | tp is => exact wipe_vsAll is h
theorem Rep.wipe {K : PySem.W.Frag} {pn : Pn} {b : Nat} {F H : Hp} {σ : L2.St} {env : En} (r : Rep K pn F H σ env b) : ∀ (own : List Nat), Rep K pn F H (wipe σ own) (wipeE env own) b
  | [] => r
  | v :: vs => by
    have q := Rep.wipe r vs
    unfold L2.wipe wipeE
    have get : ∀ (j : Nat) (s : Sl), ((wipeE env vs).set v none)[j]? = some (some s) → j ≠ v ∧ (wipeE env vs)[j]? = some (some s) := fun j s h => by
      by_cases e : j = v
      · subst e
        have hl : j < (wipeE env vs).length := by have := (List.getElem?_eq_some_iff.mp h).1; simpa using this
        rw [List.getElem?_set_self hl] at h
        cases h
      · rw [List.getElem?_set_ne (Ne.symm e)] at h
        exact ⟨e, h⟩
    refine ⟨q.ok, by simp [q.len], fun j s h => ?_, fun j k a xs ys n h1 h2 h3 => ?_⟩
    · obtain ⟨e, h⟩ := get j s h
      rw [List.getElem?_set_ne (Ne.symm e)]
      exact q.slot j s h
    · obtain ⟨e1, g1⟩ := get j _ h1
      rw [List.getElem?_set_ne (Ne.symm e1)] at h3
      rcases h2 with h2 | h2
      · obtain ⟨e2, g2⟩ := get k _ h2
        rw [List.getElem?_set_ne (Ne.symm e2)]
        exact q.apart j k a xs ys n g1 (.inl g2) h3
      · obtain ⟨e2, g2⟩ := get k _ h2
        rw [List.getElem?_set_ne (Ne.symm e2)]
        exact q.apart j k a xs ys n g1 (.inr g2) h3
theorem wipe_idem (σ : L2.St) : ∀ vs : List Nat, wipe (wipe σ vs) vs = wipe σ vs := by
  intro vs
  apply List.ext_getElem?
  intro i
  by_cases h : i ∈ vs
  · have key : ∀ (us : List Nat) (τ : L2.St), i ∈ us → (wipe τ us)[i]? = if i < τ.length then some none else none := by
      intro us
      induction us with
      | nil => intro τ hn; simp at hn
      | cons u us ih =>
        intro τ hn
        unfold wipe
        by_cases e : u = i
        · subst e
          rw [List.getElem?_set]
          simp [wipe_length]
        · have : i ∈ us := by
            rcases List.mem_cons.mp hn with z | z
            · exact (e z.symm).elim
            · exact z
          rw [List.getElem?_set_ne e, ih τ this]
    rw [key vs _ h, key vs _ h, wipe_length]
  · rw [wipe_out h]
section
variable {X : Cx} {elt tg iter : Expr} {ifs : List Expr} {scope : Scope} {own : List (Str × Nat)} {pos : Pos} {ti : WI} {g : Tg} {tt : WT} {te : WE}
theorem lc_read {iw : Bool} {K : PySem.W.Frag} {σ : L2.St} {H : Hp} {Q : VK} (hw : iw = true ∨ ∃ is, g = .tp is) (hin : ∀ i ∈ g.slots, i ∈ own.map (·.2)) (h : lF K (fLc ti g tt te (own.map (·.2))) σ H Q) : tLc (lI K true iw ti) (gT K g) (lT K tt) (lE K te) (own.map (·.2)) σ H Q := by
  obtain ⟨pn, F, env, b, P, rep, t, k⟩ := h
  refine ⟨pn, F, env, b, _, rep, t, fun items F1 H1 b1 J o1 x1 it t1 D hD => ?_⟩
  obtain ⟨hz, t1⟩ := t1
  have rep1 := rep.ext o1 x1
  have dPen : NotPen pn D ∧ ∀ pa ca, pn = some (pa, ca) → D ≠ ca := by
    refine ⟨fun pa ca e z => ?_, fun pa ca e z => ?_⟩
    · subst e; obtain ⟨_, _, _, _, _, _, h, _⟩ := o1.pen; rw [← z, hD] at h; cases h
    · subst e; obtain ⟨_, _, _, _, _, _, _, h, _⟩ := o1.pen; rw [← z, hD] at h; cases h
  refine ⟨fun i m H => ∃ F2 b2 acc vs, Ok pn b2 F2 H ∧ Ext pn F1 H1 F2 H ∧ F2 D = none ∧ H D = some (.lst vs) ∧ RVs K F2 vs acc ∧ acc.length ≤ i ∧ i + m = items.length ∧ wLc g tt te (own.map (·.2)) env (items.drop i) b2 acc P,
    ⟨items.length, F1, b1, [], [], o1.own hD, .own hD, o1.free hD, upd_same, .nil, Nat.le_refl _, by omega, t1⟩, fun i m H hW => ?_⟩
  obtain ⟨F2, b2, acc, vs, o2, x2, fD, hDv, rvs, la, em, w⟩ := hW
  obtain ⟨go, stop, yld⟩ := it i F2 H b2 o2 x2
  by_cases hi : i < items.length
  · refine .inr ⟨go hi, fun H' => ∃ F2 b2 acc vs, Ok pn b2 F2 H' ∧ Ext pn F1 H1 F2 H' ∧ F2 D = none ∧ H' D = some (.lst vs) ∧ RVs K F2 vs acc ∧ acc.length ≤ i + 1 ∧ wLc g tt te (own.map (·.2)) env (items.drop (i + 1)) b2 acc P, fun H' hN => ?_, fun x H' hy => ?_⟩
    · obtain ⟨F3, b3, acc3, vs3, c1, c2, c3, c4, c5, c6, c7⟩ := hN
      exact ⟨m - 1, by omega, F3, b3, acc3, vs3, c1, c2, c3, c4, c5, c6, by omega, c7⟩
    · obtain ⟨F', d, hd, rv, o', x'⟩ := yld x H' hy hi
      rw [List.drop_eq_getElem_cons hi] at w
      have ed : items[i] = d := by
        rw [List.getElem?_eq_getElem hi] at hd
        exact Option.some.inj hd
      rw [ed] at w
      unfold wLc at w
      split at w
      · rename_i env' hset
        have rep2 : Rep K pn F' H' (wipe σ (own.map (·.2))) (wipeE env (own.map (·.2))) b2 := (rep1.ext o' (x2.trans x')).wipe _
        refine gT_run (F0 := F') (H0 := H') (env := wipeE env (own.map (·.2))) (b := b2) o' rv hw hset fun us _ c2 => ⟨(wipe_sT hin).trans (wipe_idem _ _), ?_⟩
        have rep3 := c2 rep2
        obtain ⟨hD', fD'⟩ := x'.keep D _ hDv fD dPen.1
        refine ⟨pn, F', env', b2, _, rep3, w, fun kc F4 H4 b4 o4 x4 t4 => ?_⟩
        obtain ⟨hD4, fD4⟩ := x4.keep D _ hD' fD' dPen.1
        cases kc with
        | true =>
          refine iteT ⟨pn, F4, env', b4, _, rep3.ext o4 x4, t4, fun y dy F5 H5 b5 o5 x5 ry t5 => ?_⟩
          obtain ⟨hD5, fD5⟩ := x5.keep D _ hD4 fD4 dPen.1
          have s5 := x'.fsub.trans (x4.fsub.trans x5.fsub)
          refine ⟨vs, hD5, by rw [rvs.len]; omega, F5, b5, acc ++ [dy], vs ++ [y], ?_, ?_, fD5, upd_same, (rvs.mono s5).app (.one ry), by simp; omega, t5⟩
          · refine ⟨fun c o q => ?_, ?_⟩
            · rw [upd_ne (fun z => by rw [z, fD5] at q; cases q)]; exact o5.sub c o q
            · have kp := o5.pen
              match pn, kp, dPen with
              | none, _, _ => trivial
              | some (pa, ca), ⟨f1, f2, ne, cells, at_, cur, h1, h2, iv⟩, dPen =>
                exact ⟨f1, f2, ne, cells, at_, cur, by rw [upd_ne (dPen.1 pa ca rfl).symm]; exact h1, by rw [upd_ne (dPen.2 pa ca rfl).symm]; exact h2, iv⟩
          · have xx := x2.trans (x'.trans (x4.trans x5))
            refine ⟨xx.fsub, fun c o hc fc nc => ?_⟩
            obtain ⟨q1, q2⟩ := xx.keep c o hc fc nc
            exact ⟨by rw [upd_ne (ne_of_none hc hD)]; exact q1, q2⟩
        | false =>
          exact iteF ⟨F4, b4, acc, vs, o4, x2.trans (x'.trans x4), fD4, hD4, rvs.mono (x'.fsub.trans x4.fsub), by omega, t4⟩
      · exact w.elim
  · have e0 : items.drop i = [] := List.drop_of_length_le (by omega)
    rw [e0] at w
    refine .inl ⟨stop (by omega), k _ _ F2 H b2 o2 (x1.trans x2) ⟨D, vs, rfl, fD, dPen.1, dPen.2, hDv, rvs⟩ (fun a ea => ?_) w⟩
    cases ea
    exact x1.bk o1 hD
end
end Pu
namespace Pu
open PySem PySem.Spec PyProof.Rows L2
section
variable {X : Cx} {elt tg iter : Expr} {ifs : List Expr} {scope : Scope} {own : List (Str × Nat)} {pos : Pos} {ti : WI} {g : Tg} {tt : WT} {te : WE}
theorem ts_nil : ETs X [] wYes := ⟨fun pins s σ H Q I h => by
  obtain ⟨pn, F, env, b, P, rep, t, k⟩ := h
  exact pts_nil.run pins s σ H Q I (k true F H b rep.ok .refl t)⟩
theorem ts_one {c : Expr} {t : WT} (h : ET X c t) : ETs X [c] t := pts_one h
theorem f_lc {iw : Bool} (hc : X.calm = true) (hN : X.N.Nodup) (hi : PI X tg iter (lI X.K true iw ti)) (ok : BlkOk X.N X.env.scope scope own) (hin : ∀ i ∈ g.slots, i ∈ own.map (·.2))
    (hg : ∀ (s : Shared) (H : Hp) (C : Addr) (cl : List (Str × Addr)) (fp : List Addr), PGt (X.blk s H scope (compEnvC scope cl C X.env) fp) tg g) (ht : ∀ (s : Shared) (H : Hp) (C : Addr) (cl : List (Str × Addr)) (fp : List Addr), ETs (X.blk s H scope (compEnvC scope cl C X.env) fp) ifs tt)
    (he : ∀ (s : Shared) (H : Hp) (C : Addr) (cl : List (Str × Addr)) (fp : List Addr), EE (X.blk s H scope (compEnvC scope cl C X.env) fp) elt te) (hs : ∀ x, foldedSetIterable iter X.env x = pure x := by intro _; rfl) (hw : iw = true ∨ ∃ is, g = .tp is := by first | exact .inl rfl | exact .inr ⟨_, rfl⟩) :
    EF X (.ListComp elt [⟨tg, iter, ifs, 0⟩] scope pos) (fLc ti g tt te (own.map (·.2))) := PE.imp (pe_lc hc hN hi ok hg ht he hs) fun σ H Q h => lc_read hw hin h
theorem s_setLc {iw : Bool} {i : Nat} {y : Str} {py spos : Pos} (hc : X.calm = true) (hN : X.N.Nodup) (hy : X.N[i]? = some y) (hyl : X.env.scope.names.lookup y = some .local) (hsw : swapsWith (.ListComp elt [⟨tg, iter, ifs, 0⟩] scope pos) (some (.Name y py)) spos.line X.env = pure true)
    (hi : PI X tg iter (lI X.K true iw ti)) (ok : BlkOk X.N X.env.scope scope own) (hin : ∀ i ∈ g.slots, i ∈ own.map (·.2))
    (hg : ∀ (s : Shared) (H : Hp) (C : Addr) (cl : List (Str × Addr)) (fp : List Addr), PGt (X.blk s H scope (compEnvC scope cl C X.env) fp) tg g) (ht : ∀ (s : Shared) (H : Hp) (C : Addr) (cl : List (Str × Addr)) (fp : List Addr), ETs (X.blk s H scope (compEnvC scope cl C X.env) fp) ifs tt)
    (he : ∀ (s : Shared) (H : Hp) (C : Addr) (cl : List (Str × Addr)) (fp : List Addr), EE (X.blk s H scope (compEnvC scope cl C X.env) fp) elt te) (hs : ∀ x, foldedSetIterable iter X.env x = pure x := by intro _; rfl) (hw : iw = true ∨ ∃ is, g = .tp is := by first | exact .inl rfl | exact .inr ⟨_, rfl⟩) :
    SS X (.Assign [.Name y py] (.ListComp elt [⟨tg, iter, ifs, 0⟩] scope pos) spos) (sSet (fz (fLc ti g tt te (own.map (·.2)))) i) := PS.imp (ps_setLc hc hN hy hyl hsw hi ok hg ht he hs) fun D σ H ⟨pn, F0, H0, F, env, b, PD, rep, t, k, r⟩ => by
  refine lc_read hw hin ⟨pn, F, env, b, _, rep.rep, t, fun v d F' H' b' o x ow nw q => ?_⟩
  obtain ⟨a, vs, rfl, f, n, nc, ha, rv⟩ := ow
  have h0 := (rep.fresh nw a rfl).1
  have rep2 := rep.ext' o x
  have o2 : Ok pn b' (upd F' a (.lst vs)) H' := o.settle ha f n nc
  refine (k _ (upd F' a (.lst vs)) H' _ b' (RepS.setD ?_ (.lst upd_same (rv.mono (same_new f))))).1 q
  have x2 : Ext pn F H (upd F' a (.lst vs)) H' := ⟨x.fsub.trans (same_new f), fun c u hc fc npc => by
    obtain ⟨h1, f1⟩ := x.keep c u hc fc npc
    exact ⟨h1, by rw [upd_ne (fun z => by rw [z, nw a rfl] at hc; cases hc)]; exact f1⟩⟩
  exact rep.ext' o2 x2
end
def env0 (nn : Nat) (ss : List Sl) : En := ss.map some ++ List.replicate (nn - ss.length) none
def wDef (np nn : Nat) (t : WS) : WD := fun ss b P => ss.length = np ∧ t { nx := fun _ b' => P .none b', rt := P } (env0 nn ss) b
theorem args_at {K : PySem.W.Frag} {pn : Pn} {F H : Hp} : ∀ {vs : List V} {ss : List Sl} {i : Nat} {s : Sl}, ArgsAre K pn F H vs ss → ss[i]? = some s → ∃ v, vs[i]? = some v ∧ SlIs K pn F H v s ∧ s.isOwn = false
  | [], [], i, s, _, h => by simp at h
  | v :: vs, q :: ss, 0, s, ⟨h1, h2, _⟩, h => by simp at h; subst h; exact ⟨v, rfl, h1, h2⟩
  | v :: vs, q :: ss, i + 1, s, ⟨_, _, t⟩, h => by
    obtain ⟨u, h1, h2⟩ := args_at (i := i) (s := s) t (by simpa using h)
    exact ⟨u, by simpa using h1, h2⟩
  | [], _ :: _, _, _, h, _ => h.elim
  | _ :: _, [], _, _, h, _ => h.elim
theorem start_rep {K : PySem.W.Frag} {pn : Pn} {F H : Hp} {b : Nat} {N : List Str} {vs : List V} {ss : List Sl} (o : Ok pn b F H) (ar : ArgsAre K pn F H vs ss) : RepS K pn F H F H (L2.start N vs) (env0 N.length ss) b := by
  have el := ar.len
  have noL : ∀ (i : Nat) (s : Sl), s.isOwn = true → (env0 N.length ss)[i]? ≠ some (some s) := fun i s hs h => by
    unfold env0 at h
    by_cases hi : i < ss.length
    · rw [List.getElem?_append_left (by simpa using hi), List.getElem?_map, List.getElem?_eq_getElem hi] at h
      simp only [Option.map_some, Option.some.injEq] at h
      obtain ⟨v, _, _, q⟩ := args_at ar (List.getElem?_eq_getElem hi)
      rw [h, hs] at q
      cases q
    · rw [List.getElem?_append_right (by simpa using Nat.le_of_not_lt hi)] at h
      have := List.mem_of_getElem? h
      simp at this
  refine ⟨⟨o, by simp [L2.start, env0, el], fun i s h => ?_, fun i j a xs ys _ h1 _ _ => (noL i _ rfl h1).elim⟩, .refl, fun i a s hs h1 _ => (noL i s hs h1).elim⟩
  unfold env0 at h
  by_cases hi : i < ss.length
  · rw [List.getElem?_append_left (by simpa using hi), List.getElem?_map, List.getElem?_eq_getElem hi] at h
    simp only [Option.map_some, Option.some.injEq] at h
    obtain ⟨v, hv, q, _⟩ := args_at ar (List.getElem?_eq_getElem hi)
    rw [h] at q
    refine ⟨v, ?_, q⟩
    unfold L2.start
    rw [List.getElem?_append_left (by simpa [el] using hi), List.getElem?_map, hv]
    rfl
  · rw [List.getElem?_append_right (by simpa using Nat.le_of_not_lt hi)] at h
    have := List.mem_of_getElem? h
    simp at this
section
variable {P : Program} {w : World} {K : PySem.W.Frag} {mg : Str → Option Value} {base : Heap}
/-- a def keeps the promise that its body's reading is -/
theorem ok_fn {x qual : Str} {st : Stmt} {f : Addr} {fd : FuncData} {N ps : List Str} {k : Nat} {t : WS} (F : Fun K x qual st f fd) (S : FnScope N ps (defScope st))
    (body : ∀ (cdv : Value) (A : Around) (outer : List Env) (s : Shared) (H : Hp) (E : XK), Room k (A.deeper (envOfC qual (defScope st) s.heap.objs.size f cdv)) → SB (cxOf CX0 P w K mg base N qual (defScope st) f cdv A outer s H E).nox (defBody st) t) :
    FnOk P w K mg base CX0 (k + 1) f fd ps (spW K (wDef ps.length N.length t)) := by
  refine F.ok S (fun vs H Q E h => ?_) (fun cdv A outer s H vs Q E hr h => ?_)
  · obtain ⟨pn, F, ss, b, P, o, ar, ⟨hl, _⟩, _⟩ := h
    rw [ar.len, hl]
  · obtain ⟨pn, F, ss, b, PP, o, ar, ⟨hl, q⟩, kk⟩ := h
    exact ⟨lS K t, body cdv A outer s H E hr, pn, F, H, F, _, b, _, start_rep o ar, q,
      fun σ' F' H' env' b' rep' => ⟨fun q => kk .non .none F' H' b' rep'.rep.ok rep'.ext .non q, fun q => q, fun q => q⟩, ⟨fun v d F' H' b' o' x' rv q => kk v d F' H' b' o' x' rv q, fun _ _ _ _ _ _ _ _ _ q => q.elim⟩⟩
/-- another way to say what a def does -/
theorem spW.imp {f : Addr} {fd : FuncData} {ps : List Str} {k : Nat} {t u : WD} (G : FnOk P w K mg base CX0 k f fd ps (spW K t)) (h : ∀ ss b P, u ss b P → t ss b P) : FnOk P w K mg base CX0 k f fd ps (spW K u) :=
  G.imp fun vs H Q E ⟨pn, F, ss, b, P, o, ar, q, kk⟩ => ⟨pn, F, ss, b, P, o, ar, h ss b P q, kk⟩
end
end Pu
namespace Pu
open PySem PySem.Spec PyProof.Rows L2
theorem toFun {K : PySem.W.Frag} {x qual : Str} {st : Stmt} {f : Addr} {fd : FuncData} (F : FunD K x qual (defArgs st) (defBody st) (defScope st) [] [] f fd) : Fun K x qual st f fd := by
  obtain ⟨oc, od, dV, kV, doc, pm, an, cdv, ct, osl, rfl, lk, hcd, hD, _⟩ := F.ex
  rcases hD with ⟨_, rfl⟩ | ⟨e, _⟩
  · exact ⟨⟨oc, od, kV, doc, pm, an, cdv, ct, osl, rfl, lk, hcd⟩, F.kp⟩
  · exact absurd rfl e
section
variable {X : Cx} {a c e e2 : Expr} {pos : Pos} {ta tb tc : WE}
theorem e_one {op : BoolOp} (h : EE X a ta) : EE X (.BoolOp op [a] pos) ta := pe_one h
/-- a < b < c -/
def wCh (p q : P2) (ta tb tc : WE) : WE := fun env b P => ta env b fun x b1 => tb env b1 fun y b2 => p x y fun z => match z with
  | .bool k => if k = true then tc env b2 fun w b3 => q y w fun u => P u b3 else P (.bool false) b2
  | _ => False
def wOpL (p : PyData → PyData → (List PyData → Prop) → Prop) (ta tb : WE) : WF := fun env b P => ta env b fun x b1 => tb env b1 fun y b2 => p x y fun z => P z b2
def pCatL : PyData → PyData → (List PyData → Prop) → Prop
  | .list xs, .list ys, P => xs.length + ys.length ≤ sizeLine ∧ P (xs ++ ys)
  | _, _, _ => False
def pRepL : PyData → PyData → (List PyData → Prop) → Prop
  | .list xs, .int k, P => -(2 ^ 63) ≤ k ∧ k < 2 ^ 63 ∧ xs.length * k.toNat ≤ sizeLine ∧ P (List.replicate k.toNat xs).flatten
  | _, _, _ => False
/-- {} -/
def wD0 : WE := fun _ b P => P (.dict []) b
end
/-- a global that is a text, a number -/
def Cst (mg : Str → Option Value) (x : Str) (v : V) : Prop := ∃ u, mg x = some u ∧ RelV v u
theorem e_glo {X : Cx} {x : Str} {pos : Pos} {v : V} {d : PyData} (hg : Gl X x) (hm : Cst X.mg x v) (r : ∀ F, RV X.K F v d) (hd : (x == ("__debug__" : Str)) = false := by decide) : EE X (.Name x pos) (wC d) := by
  obtain ⟨u, h1, h2⟩ := hm
  exact e_c (pe_glob hg h1 h2 hd) r
end Pu
namespace Pu
open PySem PySem.Spec PyProof.Rows L2
abbrev pLt : P2 := pI (fun _ _ => True) fun i j => .bool (decide (i < j))
abbrev pLe : P2 := pI (fun _ _ => True) fun i j => .bool (decide (i ≤ j))
abbrev pGt : P2 := pI (fun _ _ => True) fun i j => .bool (decide (j < i))
abbrev pGe : P2 := pI (fun _ _ => True) fun i j => .bool (decide (j ≤ i))
abbrev pSub : P2 := pI (fun _ _ => True) fun i j => .int (i - j)
abbrev pMod : P2 := pI (fun _ j => 0 < j) fun i j => .int (i % j)
abbrev pPow : P2 := pI CPow fun i j => .int (i ^ j.toNat)
end Pu
namespace Pu
open PySem PySem.Spec PyProof.Rows L2
section
variable {X : Cx} {pins : List (Addr × Obj)} {σ : L2.St} {H : Hp} {s : Shared}
/-- the state behind a store to a plain local name -/
theorem stored {i : Nat} {x : Str} {v : V} {u : Value} {m : Str → Option Value} {h' : Heap} {tk : Nat} (I : Inv X pins σ H s) (nd : X.N.Nodup) (at_ : X.N[i]? = some x) (kl : X.env.scope.names.lookup x = some .local) (rv : RelV v u)
    (ns : s.heap.Ns X.env.locals m) (lk : ∀ (j : Nat) (y : Str) (w : V), X.N[j]? = some y → σ[j]? = some (some w) → Vis X.env.scope y → ∃ z, RelV w z ∧ Look X.env s.heap m y z)
    (ns' : h'.Ns X.env.locals (fun y => if y = x then some u else m y)) (sb : Heap.SameBut X.env.locals s.heap h') : Inv X pins (σ.set i (some v)) H { s with heap := h', toks := tk } := by
  have bound : i < σ.length := I.len.symm ▸ (List.getElem?_eq_some_iff.mp at_).1
  have old : ∀ b o, X.s_0.heap.get? b = some o → b ≠ X.env.locals := fun b o e => Nat.ne_of_lt (Nat.lt_of_lt_of_le (Heap.lt_size e) I.ok.above)
  obtain ⟨oL, _, _, atL, _⟩ := id ns
  have trackd : HOk X.prog X.w H h' := fun b ob e => by
    refine (I.hok b ob e).stay (fun c w' hc q => (sb.2 c fun z => ?_).trans q) (fun _ q => q) fun _ _ q => q
    subst z
    rcases hc with hc | hc
    · subst hc; rw [I.free] at e; cases e
    · rw [I.free] at hc; cases hc
  refine ⟨I.ok, I.os, I.bare, ⟨fun b o e n hb hx => (sb.2 b (old b o e)).trans (I.base.keep b o e n hb hx), fun b o e n hb hx => ?_, I.base.free, fun b o e hx => ?_, I.base.tups, I.base.frzs, I.base.tbls⟩, ⟨_, ns', fun j y w e1 e2 e3 => ?_⟩, fun y c e => ?_, I.free, I.freeC, fun p hp => ?_, trackd, by simpa using I.len⟩
  · obtain ⟨sl, e1⟩ := I.base.slot b o e n hb hx
    exact ⟨sl, (sb.2 b (old b o e)).trans e1⟩
  · obtain ⟨o', e1⟩ := I.base.there b o e hx
    exact ⟨o', (sb.2 b (old b o e)).trans e1⟩
  · by_cases hj : j = i
    · subst hj
      have ey : x = y := Option.some.inj (at_.symm.trans e1)
      subst ey
      rw [List.getElem?_set_self bound] at e2
      have ew : v = w := by simpa using e2
      subst ew
      exact ⟨u, rv, .inl ⟨kl, if_pos rfl⟩⟩
    · rw [List.getElem?_set_ne (Ne.symm hj)] at e2
      obtain ⟨z, rz, q⟩ := lk j y w e1 e2 e3
      have ne : y ≠ x := fun e => hj (nodup_ix nd e1 (e.symm ▸ at_))
      refine ⟨z, rz, ?_⟩
      rcases q with ⟨kk, e⟩ | ⟨kk, c, e, zz⟩
      · exact .inl ⟨kk, by simp [ne, e]⟩
      · exact .inr ⟨kk, c, e, zz.sameBut sb (I.cne y c e)⟩
  · obtain ⟨w', z⟩ := I.cell y c e
    exact ⟨w', z.sameBut sb (I.cne y c e)⟩
  · obtain ⟨e, n, ne, nf, d⟩ := I.pin p hp
    exact ⟨(sb.2 p.1 ne).trans e, n, ne, nf, d⟩
/-- what a name's evaluation gives, token and all -/
def Raw (X : Cx) (x : Str) (u : Value) (s : Shared) : Prop := ∀ (pos : Pos) (Q E : Value → Shared → Prop), Q u s → wpAny (model X.prog X.w) X.A (eval (.Name x pos) X.env) Q E s
/-- x = e, where e's value is a text whose token is known -/
theorem asg_raw {i : Nat} {x : Str} {e : Expr} {p1 p4 : Pos} {Q : Flow → Shared → Prop} (nd : X.N.Nodup) (at_ : X.N[i]? = some x) (kl : X.env.scope.names.lookup x = some .local) (hd : (x == ("__debug__" : Str)) = false)
    (h : wpAny (model X.prog X.w) X.A (eval e X.env) (fun u s1 => ∃ (z : Str) (t : Tok) (H1 : Hp), u = .str z t ∧ t ≠ 0 ∧ t < s1.toks ∧ Inv X pins σ H1 s1 ∧
      ∀ s2, Inv X pins (σ.set i (some (.str z))) H1 s2 → Raw X x (.str z t) s2 → t < s2.toks → Q .next s2) X.xe s)
    (hs : swapsWith e (some (.Name x p1)) p4.line X.env = pure false) : wpAny (model X.prog X.w) X.A (exec (.Assign [.Name x p1] e p4) X.env) Q X.xe s := by
  refine wpAny_Assign_Name (thn h fun u s1 q => ?_) hs
  obtain ⟨z, t, H1, rfl, t0, tl, I1, k⟩ := q
  obtain ⟨m, ns, lk⟩ := id I1.loc
  refine wpAny_storeName_local kl ns (fun h' ns' sb => ?_) (by rw [I1.ok.kind]; rfl)
  refine k _ (stored I1 nd at_ kl ⟨t, rfl⟩ ns lk ns' sb) (fun pos Q E q => ?_) (show t < s1.toks + 1 from Nat.lt_succ_of_lt tl)
  exact wpAny_Name (wpAny_loadName_local I1.ok.kind kl ns' (if_pos rfl) q) hd
/-- text.replace(x, '') -/
theorem strike_raw {ic : Nat} {c x : Str} {z y : Str} {t : Tok} {p1 p2 apos pos c0 : Pos} {j : Nat} {Q : VK} (hN : X.N[ic]? = some c) (hv : Vis X.env.scope c) (dc : (c == ("__debug__" : Str)) = false) (cc : (c == ("__classdict__" : Str)) = false)
    (I : Inv X pins σ H s) (hz : σ[ic]? = some (some (.str z))) (raw : Raw X x (.str y t) s) (t0 : t ≠ 0) (tl : t < s.toks) (hy : (y == Str.empty) = false) (len : z.length ≤ 16777216)
    (hst : starEach [.Name x p2, .Constant (.str "") j c0] X.env = [(false, eval (.Name x p2) X.env), (false, eval (.Constant (.str "") j c0) X.env)]) (hbase : attributeBase (.Name c p1) "replace" X.env (eval (.Name c p1) X.env) = eval (.Name c p1) X.env) (hline : (apos.endLine == pos.line) = true)
    (q : Q (.str (Txt.replace z y Str.empty)) H) : wpAny (model X.prog X.w) X.A (eval (.Call (.Attribute (.Name c p1) "replace" apos) [.Name x p2, .Constant (.str "") j c0] [] pos) X.env) (EP X pins σ Q) X.xe s := by
  refine PySem.Call_method2 hbase hst hline (raw_name hN hv I hz (fun v r => ?_) dc cc)
  obtain ⟨tz, rfl⟩ := r
  refine ⟨"str", _, F.plainAttrs_str, F.slot_str_replace, F.type_str_replace, typeIs_str _ _ _, (fun _ e => nomatch e), Calls.callWith_builtin rfl (Calls.evalArgs_plain (Calls.spliced_cons ?_))⟩
  refine raw _ _ _ (Calls.spliced_cons (Calls.Constant_str (Calls.spliced_nil ?_)))
  exact PySem.SC.replace t0 (fun e => absurd (e ▸ tl : t < 0) (Nat.not_lt_zero _)) (Nat.ne_of_lt tl) hy (by show z.length + (z.length + 1) * 0 ≤ 16777216; omega) fun t' k => ⟨.str (Txt.replace z y Str.empty), H, I.tok k, ⟨t', rfl⟩, q⟩
end
end Pu
namespace Pu
open PySem PySem.Spec PyProof.Rows L2
section
variable {X : Cx} {pins : List (Addr × Obj)} {σ : L2.St} {H : Hp} {s : Shared}
/-- c[take(pen, len(c))]: the sign's token is out -/
theorem pick_raw {ic ip : Nat} {c pen ft : Str} {z : Str} {vp : V} {f : Addr} {fd : FuncData} {ps : List Str} {k : Nat} {sp : Sp} {p1 p2 p3 p4 p5 p6 p7 p10 : Pos} {Q : VK}
    (hNc : X.N[ic]? = some c) (hvc : Vis X.env.scope c) (dc : (c == ("__debug__" : Str)) = false) (cc : (c == ("__classdict__" : Str)) = false)
    (hNp : X.N[ip]? = some pen) (hvp : Vis X.env.scope pen) (dp : (pen == ("__debug__" : Str)) = false) (cp : (pen == ("__classdict__" : Str)) = false)
    (G : FnOk X.prog X.w X.K X.mg X.base CX0 k f fd ps sp) (hr : Room k X.A) (hg : Gl X ft) (hm : X.mg ft = some (.ref f)) (hk : PySem.W.keepIn X.K (.ref f) = true) (hb : Binds X.K fd ps []) (df : (ft == ("__debug__" : Str)) = false)
    (hgl : Gl X "len") (hml : X.mg "len" = none)
    (he : starEach [.Name pen p3, .Call (.Name "len" p4) [.Name c p5] [] p6] X.env = (false, eval (.Name pen p3) X.env) :: starEach [.Call (.Name "len" p4) [.Name c p5] [] p6] X.env)
    (he2 : starEach [.Call (.Name "len" p4) [.Name c p5] [] p6] X.env = (false, eval (.Call (.Name "len" p4) [.Name c p5] [] p6) X.env) :: starEach [] X.env)
    (he3 : starEach [.Name c p5] X.env = (false, eval (.Name c p5) X.env) :: starEach [] X.env)
    (I : Inv X pins σ H s) (hz : σ[ic]? = some (some (.str z))) (hp : σ[ip]? = some (some vp)) (len : z.length ≤ 16777216)
    (h : sp [vp, .int z.length] H (fun y H1 => ∃ i cc, y = .int i ∧ atI z.cps.toList i = some cc ∧ Q (.str ⟨#[cc]⟩) H1) E0) :
    wpAny (model X.prog X.w) X.A (eval (.Subscript (.Name c p1) (.Call (.Name ft p2) [.Name pen p3, .Call (.Name "len" p4) [.Name c p5] [] p6] [] p7) p10) X.env)
      (fun u s1 => ∃ (y : Str) (t : Tok) (H1 : Hp), u = .str y t ∧ t ≠ 0 ∧ t < s1.toks ∧ Inv X pins σ H1 s1 ∧ (y == Str.empty) = false ∧ Q (.str y) H1) X.xe s := by
  have z63 : (sizeLine : Nat) < 2 ^ 63 := line63
  have zs : (16777216 : Nat) ≤ sizeLine := by decide
  refine Subscript_ (raw_name hNc hvc I hz (fun v r => ?_) dc cc)
  obtain ⟨tz, rfl⟩ := r
  refine wpAny_Call_Name_kw (ld_glob I hg hm ?_ df)
  refine PySem.W.callWith_K (h₀ := X.base) I.ok.mod.kin hk ?_ he (by rw [he2]; rfl)
  rw [he]
  show wpAny _ _ (spliced ((false, eval (.Name pen p3) X.env) :: backTo p7 (starEach [.Call (.Name "len" p4) [.Name c p5] [] p6] X.env))) _ _ s
  refine Calls.spliced_cons (raw_name hNp hvp I hp (fun vpen rpen => ?_) dp cp)
  rw [he2]
  show wpAny _ _ (spliced ((false, eval (.Call (.Name "len" p4) [.Name c p5] [] p6) X.env) :: backTo p7 (starEach [] X.env))) _ _ s
  refine Calls.spliced_cons (wpAny_Call_Name_kw (ld_blt I hgl hml PySem.boot_len ?_))
  refine PyProof.Rows.callWith_builtin1 ?_ he3 (by rfl)
  rw [he3]
  show wpAny _ _ (spliced ((false, eval (.Name c p5) X.env) :: backTo p6 (starEach [] X.env))) _ _ s
  refine Calls.spliced_cons (raw_name hNc hvc I hz (fun v2 r2 => ?_) dc cc)
  obtain ⟨tz2, rfl⟩ := r2
  refine Calls.spliced_nil ?_
  refine PyProof.Rows.len_str (by omega) ?_
  refine Calls.spliced_nil ?_
  have I2 : Inv X pins σ H { s with toks := s.toks + 1 + 1 } := I.tok _
  refine ⟨I2.kIn, ?_⟩
  refine wpAny_with_toks (n := 1) (show 1 ≤ s.toks + 1 + 1 from Nat.le_add_left 1 _) (wpAny_mono (run_fn G hr hb .nil pass0 (vs := [vp, .int z.length]) I2 (Paired.cons rpen (.cons ⟨_, rfl⟩ .nil)) h) (fun u s1 q h1 => ?_) fun _ _ e _ => e)
  obtain ⟨y, H1, I1, ry, i, d, rfl, hat, q⟩ := q
  obtain ⟨ti, rfl⟩ := ry
  obtain ⟨j, a1, a2, a3, a4, a5⟩ := atI_get hat
  have hl : z.cps.toList.length = z.length := by simp [Str.length]
  rw [hl] at a1 a4 a5
  refine tail_any (typeIs_str s1 z tz) slot_str_getitem.lookup (PyProof.Rows.getItem_str (c := d) ?_ (by rw [a1]; simpa using a2) ?_) rfl
  · have e1 : decide (i < -(2 ^ 63 : Int)) = false := decide_eq_false (by omega)
    have e2 : decide (i ≥ 2 ^ 63) = false := decide_eq_false (by omega)
    rw [e1, e2, Bool.or_false]
  · exact ⟨⟨#[d]⟩, s1.toks, H1, rfl, (fun e => absurd (e ▸ h1 : 1 ≤ 0) (by decide)), Nat.lt_succ_self _, I1.tok _, by rfl, q⟩
end
/-- right = c[take(pen, len(c))]; left = g(pen, c.replace(right, '')) -/
def sPick (ic ip ir il : Nat) (wt wg : WD) (u : WS) : WS := fun PD env b => match env[ic]?, env[ip]? with
  | some (some (.d (.str z))), some (some .p) => z.length ≤ 16777216 ∧ wt [.p, .d (.int z.length)] b fun y b1 => match y with
    | .int i => match atI z.cps.toList i with
      | some c => wg [.p, .d (.str (Txt.replace z ⟨#[c]⟩ Str.empty))] b1 fun d b2 => u PD ((env.set ir (some (.d (.str ⟨#[c]⟩)))).set il (some (.d d))) b2
      | none => False
    | _ => False
  | _, _ => False
section
variable {X : Cx}
theorem sb_pick {ic ip ir il : Nat} {c pen ft gt xr xl : Str} {f g : Addr} {fd gd : FuncData} {ps qs : List Str} {k k2 : Nat} {wt wg : WD} {p1 p2 p3 p4 p5 p6 p7 p8 p9 p10 q1 q2 q3 q4 q5 q6 q7 q8 q9 apos : Pos} {jn : Nat} {rest : List Stmt} {u : WS}
    (nd : X.N.Nodup) (hNc : X.N[ic]? = some c) (hvc : Vis X.env.scope c) (dc : (c == ("__debug__" : Str)) = false) (cc : (c == ("__classdict__" : Str)) = false)
    (hNp : X.N[ip]? = some pen) (hvp : Vis X.env.scope pen) (dp : (pen == ("__debug__" : Str)) = false) (cp : (pen == ("__classdict__" : Str)) = false)
    (hNr : X.N[ir]? = some xr) (hlr : X.env.scope.names.lookup xr = some .local) (dr : (xr == ("__debug__" : Str)) = false)
    (hNl : X.N[il]? = some xl) (hll : Loc X.env.scope xl) (hfl : X.fn xl = true ∨ X.env.scope.names.lookup xl = some .local) (ncr : ic ≠ ir) (npr : ip ≠ ir)
    (G : FnOk X.prog X.w X.K X.mg X.base CX0 k f fd ps (spW X.K wt)) (hr : Room k X.A) (hg : Gl X ft) (hm : X.mg ft = some (.ref f)) (hk : PySem.W.keepIn X.K (.ref f) = true) (hb : Binds X.K fd ps []) (df : (ft == ("__debug__" : Str)) = false)
    (G2 : FnOk X.prog X.w X.K X.mg X.base CX0 k2 g gd qs (spW X.K wg)) (hr2 : Room k2 X.A) (hg2 : Gl X gt) (hm2 : X.mg gt = some (.ref g)) (hk2 : PySem.W.keepIn X.K (.ref g) = true) (hb2 : Binds X.K gd qs []) (dg : (gt == ("__debug__" : Str)) = false)
    (hgl : Gl X "len") (hml : X.mg "len" = none)
    (he : starEach [.Name pen p3, .Call (.Name "len" p4) [.Name c p5] [] p6] X.env = (false, eval (.Name pen p3) X.env) :: starEach [.Call (.Name "len" p4) [.Name c p5] [] p6] X.env)
    (he2 : starEach [.Call (.Name "len" p4) [.Name c p5] [] p6] X.env = (false, eval (.Call (.Name "len" p4) [.Name c p5] [] p6) X.env) :: starEach [] X.env)
    (he3 : starEach [.Name c p5] X.env = (false, eval (.Name c p5) X.env) :: starEach [] X.env)
    (hs : swapsWith (.Subscript (.Name c p1) (.Call (.Name ft p2) [.Name pen p3, .Call (.Name "len" p4) [.Name c p5] [] p6] [] p7) p10) (some (.Name xr p8)) p9.line X.env = pure false)
    (hst : starEach [.Name xr q5, .Constant (.str "") jn q6] X.env = [(false, eval (.Name xr q5) X.env), (false, eval (.Constant (.str "") jn q6) X.env)]) (hbase : attributeBase (.Name c q4) "replace" X.env (eval (.Name c q4) X.env) = eval (.Name c q4) X.env) (hline : (apos.endLine == q7.line) = true)
    (hf : starEach [.Name pen q3, .Call (.Attribute (.Name c q4) "replace" apos) [.Name xr q5, .Constant (.str "") jn q6] [] q7] X.env = (false, eval (.Name pen q3) X.env) :: starEach [.Call (.Attribute (.Name c q4) "replace" apos) [.Name xr q5, .Constant (.str "") jn q6] [] q7] X.env)
    (hf2 : starEach [.Call (.Attribute (.Name c q4) "replace" apos) [.Name xr q5, .Constant (.str "") jn q6] [] q7] X.env = (false, eval (.Call (.Attribute (.Name c q4) "replace" apos) [.Name xr q5, .Constant (.str "") jn q6] [] q7) X.env) :: starEach [] X.env)
    (hs2 : swapsWith (.Call (.Name gt q2) [.Name pen q3, .Call (.Attribute (.Name c q4) "replace" apos) [.Name xr q5, .Constant (.str "") jn q6] [] q7] [] q9) (some (.Name xl q1)) q8.line X.env = pure false)
    (hrest : SB X rest u) :
    SB X (.Assign [.Name xr p8] (.Subscript (.Name c p1) (.Call (.Name ft p2) [.Name pen p3, .Call (.Name "len" p4) [.Name c p5] [] p6] [] p7) p10) p9 :: .Assign [.Name xl q1] (.Call (.Name gt q2) [.Name pen q3, .Call (.Attribute (.Name c q4) "replace" apos) [.Name xr q5, .Constant (.str "") jn q6] [] q7] [] q9) q8 :: rest) (sPick ic ip ir il wt wg u) := by
  refine ⟨fun pins s σ H D I h => ?_⟩
  obtain ⟨pn, F0, H0, F, env, b, PD, rep, t, kk, r⟩ := h
  unfold sPick at t
  split at t
  case h_2 => exact t.elim
  rename_i z hc hp
  obtain ⟨len, t⟩ := t
  obtain ⟨vc, hvz, rz⟩ := rep.rep.slot ic _ hc
  cases rz
  obtain ⟨vp, hvpv, pa, ca, epn, ep⟩ := rep.rep.slot ip _ hp
  refine wpAny_execs_cons (asg_raw (σ := σ) (pins := pins) nd hNr hlr dr (thn (pick_raw (Q := fun v H1 => ∃ d F1 b1, v = .str ⟨#[d]⟩ ∧ Ok pn b1 F1 H1 ∧ Ext pn F H F1 H1 ∧
      wg [.p, .d (.str (Txt.replace z ⟨#[d]⟩ Str.empty))] b1 fun e b2 => u PD ((env.set ir (some (.d (.str ⟨#[d]⟩)))).set il (some (.d e))) b2)
    hNc hvc dc cc hNp hvp dp cp G hr hg hm hk hb df hgl hml he he2 he3 I hvz hvpv len ?_) fun w s1 q => ?_) hs)
  · refine ⟨pn, F, [.p, .d (.int z.length)], b, _, rep.rep.ok, ⟨⟨pa, ca, epn, ep⟩, rfl, .int _, rfl, trivial⟩, t, fun v d F1 H1 b1 o1 x1 rv q => ?_⟩
    cases rv with
    | int i =>
      simp only at q
      cases e : atI z.cps.toList i with
      | none => rw [e] at q; exact q.elim
      | some d => rw [e] at q; exact ⟨i, d, rfl, e, d, F1, b1, rfl, o1, x1, q⟩
    | _ => exact q.elim
  · obtain ⟨y, tk, H1, rfl, t0, tl, I1, ny, d, F1, b1, ey, o1, x1, q⟩ := q
    cases ey
    refine ⟨_, tk, H1, rfl, t0, tl, I1, fun s2 I2 raw tl2 => ?_⟩
    have rep1 := rep.ext' o1 x1
    have rep2 := rep1.setD (i := ir) (d := .str ⟨#[d]⟩) (RV.str _)
    have hz2 : (σ.set ir (some (V.str ⟨#[d]⟩)))[ic]? = some (some (V.str z)) := by rw [List.getElem?_set_ne (Ne.symm ncr)]; exact hvz
    have hp2 : (σ.set ir (some (V.str ⟨#[d]⟩)))[ip]? = some (some vp) := by rw [List.getElem?_set_ne (Ne.symm npr)]; exact hvpv
    refine wpAny_execs_cons (wpAny_Assign_Name (thn (Q := EP X pins (σ.set ir (some (V.str ⟨#[d]⟩))) fun v H2 => ∃ e F2 b2, RV X.K F2 v e ∧ Ok pn b2 F2 H2 ∧ Ext pn F1 H1 F2 H2 ∧ u PD ((env.set ir (some (.d (.str ⟨#[d]⟩)))).set il (some (.d e))) b2) ?_ fun w s3 q3 => ?_) hs2)
    · refine wpAny_Call_Name_kw (ld_glob I2 hg2 hm2 ?_ dg)
      refine PySem.W.callWith_K (h₀ := X.base) I2.ok.mod.kin hk2 ?_ hf (by rw [hf2]; rfl)
      rw [hf]
      show wpAny _ _ (spliced ((false, eval (.Name pen q3) X.env) :: backTo q9 (starEach [.Call (.Attribute (.Name c q4) "replace" apos) [.Name xr q5, .Constant (.str "") jn q6] [] q7] X.env))) _ _ s2
      refine Calls.spliced_cons (raw_name hNp hvp I2 hp2 (fun vpen rpen => ?_) dp cp)
      rw [hf2]
      show wpAny _ _ (spliced ((false, eval (.Call (.Attribute (.Name c q4) "replace" apos) [.Name xr q5, .Constant (.str "") jn q6] [] q7) X.env) :: backTo q9 (starEach [] X.env))) _ _ s2
      refine Calls.spliced_cons (thn (strike_raw (Q := fun v H2 => v = .str (Txt.replace z ⟨#[d]⟩ Str.empty) ∧ H2 = H1) hNc hvc dc cc I2 hz2 raw t0 tl2 ny len hst hbase hline ⟨rfl, rfl⟩) fun w s4 q4 => Calls.spliced_nil ?_)
      obtain ⟨v4, H4, I4, r4, rfl, rfl⟩ := q4
      refine ⟨I4.kIn, run_fn G2 hr2 hb2 .nil pass0 (vs := [vp, .str (Txt.replace z ⟨#[d]⟩ Str.empty)]) I4 (Paired.cons rpen (.cons r4 .nil)) ?_⟩
      exact ⟨pn, F1, [.p, .d (.str (Txt.replace z ⟨#[d]⟩ Str.empty))], b1, _, o1, ⟨⟨pa, ca, epn, ep⟩, rfl, .str _, rfl, trivial⟩, q, fun v e F2 H2 b2 o2 x2 rv q => ⟨e, F2, b2, rv, o2, x2, q⟩⟩
    · obtain ⟨v, H3, I3, r3, e, F2, b2, rv, o2, x2, q⟩ := q3
      refine store_ok I3 nd hNl hll r3 (fun s5 I5 => ?_) hfl
      have rep3 := (rep2.ext' o2 x2).setD (i := il) rv
      exact hrest.run pins s5 _ H3 D I5 ⟨pn, F0, H0, F2, _, b2, PD, rep3, q, kk, r⟩
end
end Pu
namespace Pu
open PySem PySem.Spec PyProof.Rows L2
end Pu
namespace Pu
open PySem PySem.Spec PyProof.Rows L2
end Pu
namespace PuS
open PySem PySem.Spec PyProof.Rows L2
section
variable {P : Program} {w : World} {κ : Type} [DecidableEq κ] {kd : PySem.KeyKind P w κ}
/-- the key that a value is -/
noncomputable def kO (kd : PySem.KeyKind P w κ) (v : Value) : Option κ := open Classical in if h : ∃ k, kd.is k v = true then some h.choose else none
noncomputable abbrev kE (kd : PySem.KeyKind P w κ) (e : Int × Value) : Option κ := kO kd e.2
/-- the set at a: its members M, n of them -/
structure SG (kd : PySem.KeyKind P w κ) (o : Obj) (M : κ → Bool) (n : Nat) (es : Array (Int × Value)) (ep : Nat) (t : SetTable) : Prop where
  ex : o.ExactSet
  dt : o.data = .set es ep t
  el : ElemsOf kd es.toList
  nd : (es.toList.map (kE kd)).Nodup
  mem : ∀ k, M k = true ↔ some k ∈ es.toList.map (kE kd)
  few : es.size < scanBound
  fit : t.fits es.size = true
  num : es.size = n
  ris : Ris t.place.toList
  led : w.params.followText "set-order" = true ∨ t.led = true
def SetG (kd : PySem.KeyKind P w κ) (h : Heap) (a : Addr) (M : κ → Bool) (n : Nat) : Prop := ∃ o es ep t, h.get? a = some o ∧ SG kd o M n es ep t
variable {h h' : Heap} {a : Addr} {M : κ → Bool} {n : Nat}
theorem SetG.at' (R : SetG kd h a M n) (k : ∀ o, h.get? a = some o → h'.get? a = some o) : SetG kd h' a M n := let ⟨o, es, ep, t, ho, r⟩ := R; ⟨o, es, ep, t, k o ho, r⟩
end
end PuS
namespace PuS
open PySem PySem.Spec PyProof.Rows L2
/-- the keys, each once, in the order they come -/
def dstep {κ : Type} [DecidableEq κ] (acc : List κ) (k : κ) : List κ := if k ∈ acc then acc else acc ++ [k]
def dist {κ : Type} [DecidableEq κ] (l : List κ) : List κ := l.foldl dstep []
theorem dist_snoc {κ : Type} [DecidableEq κ] (l : List κ) (k : κ) : dist (l ++ [k]) = dstep (dist l) k := by
  unfold dist
  rw [List.foldl_append]
  rfl
theorem dist_len {κ : Type} [DecidableEq κ] (l : List κ) : (dist l).length ≤ l.length := by
  suffices h : ∀ (l acc : List κ), (l.foldl dstep acc).length ≤ acc.length + l.length by
    have := h l []
    simpa [dist] using this
  intro l
  induction l with
  | nil => intro acc; simp
  | cons x r ih =>
    intro acc
    refine Nat.le_trans (ih _) ?_
    unfold dstep
    split
    · simp only [List.length_cons]; omega
    · simp only [List.length_append, List.length_cons, List.length_nil]; omega
end PuS
namespace PuS
open PySem PySem.Spec PyProof.Rows L2
section
variable {P : Program} {w : World} {κ : Type} [DecidableEq κ] {kd : PySem.KeyKind P w κ} {A : Around} {E : Value → Shared → Prop} {s : Shared}
/-- values that are keys -/
def Keyed (kd : PySem.KeyKind P w κ) (vs : List Value) (ks : List κ) : Prop := vs.length = ks.length ∧ ∀ (i : Nat) (v : Value), vs[i]? = some v → ∃ k, ks[i]? = some k ∧ kd.is k v = true ∧ v.scannable = true
theorem Keyed.nil : Keyed kd [] [] := ⟨rfl, fun i v h => by simp at h⟩
theorem Keyed.cons {v : Value} {k : κ} {vs : List Value} {ks : List κ} (h : kd.is k v = true) (q : v.scannable = true) (r : Keyed kd vs ks) : Keyed kd (v :: vs) (k :: ks) :=
  ⟨congrArg (· + 1) r.1, fun i u e => by
    cases i with
    | zero => simp at e; subst e; exact ⟨k, rfl, h, q⟩
    | succ i => simpa using r.2 i u (by simpa using e)⟩
end
end PuS
namespace PuS
open PySem PySem.Spec PyProof.Rows L2
abbrev sLt (x y : Str) : Prop := x.cps.toList < y.cps.toList
theorem sLt_irrefl (x : Str) : ¬ sLt x x := List.lt_irrefl _
theorem sLt_trans {x y z : Str} (h : sLt x y) (k : sLt y z) : sLt x z := List.lt_trans h k
theorem sLt_tri (x y : Str) : sLt x y ∨ x = y ∨ sLt y x := by
  by_cases h : sLt x y
  · exact .inl h
  · by_cases k : sLt y x
    · exact .inr (.inr k)
    · exact .inr (.inl (PySem.W.str_of_cps (List.le_antisymm (List.not_lt.mp k) (List.not_lt.mp h))))
/-- put in, in ascending order, once -/
def insS (z : Str) : List Str → List Str
  | [] => [z]
  | x :: r => if z = x then x :: r else if sLt z x then z :: x :: r else x :: insS z r
def asc (l : List Str) : List Str := l.foldr insS []
theorem mem_insS {z x : Str} : ∀ {l : List Str}, x ∈ insS z l ↔ x = z ∨ x ∈ l
  | [] => by simp [insS]
  | y :: r => by
    unfold insS
    split
    · rename_i e; subst e; simp
    · split
      · simp
      · rw [List.mem_cons, mem_insS (l := r), List.mem_cons]
        exact ⟨fun h => h.elim (fun a => .inr (.inl a)) fun b => b.elim .inl fun c => .inr (.inr c), fun h => h.elim (fun a => .inr (.inl a)) fun b => b.elim .inl fun c => .inr (.inr c)⟩
theorem insS_asc {z : Str} : ∀ {l : List Str}, l.Pairwise sLt → (insS z l).Pairwise sLt
  | [], _ => List.pairwise_singleton _ _
  | y :: r, h => by
    obtain ⟨h1, h2⟩ := List.pairwise_cons.mp h
    unfold insS
    split
    · exact h
    · split
      · rename_i _ lt
        exact List.pairwise_cons.mpr ⟨fun x hx => (List.mem_cons.mp hx).elim (fun e => e ▸ lt) fun hr => sLt_trans lt (h1 x hr), h⟩
      · rename_i ne nl
        refine List.pairwise_cons.mpr ⟨fun x hx => ?_, insS_asc h2⟩
        rcases mem_insS.mp hx with e | hr
        · subst e
          rcases sLt_tri y x with a | a | a
          · exact a
          · exact absurd a.symm ne
          · exact absurd a nl
        · exact h1 x hr
theorem asc_asc : ∀ (l : List Str), (asc l).Pairwise sLt
  | [] => List.Pairwise.nil
  | y :: r => insS_asc (asc_asc r)
theorem mem_dist {κ : Type} [DecidableEq κ] {x : κ} {l : List κ} : x ∈ dist l ↔ x ∈ l := by
  suffices h : ∀ (l acc : List κ), x ∈ l.foldl dstep acc ↔ x ∈ acc ∨ x ∈ l by
    have := h l []
    simpa [dist] using this
  intro l
  induction l with
  | nil => intro acc; simp
  | cons y r ih =>
    intro acc
    rw [List.foldl_cons, ih, List.mem_cons]
    have : x ∈ dstep acc y ↔ x ∈ acc ∨ x = y := by
      unfold dstep
      split
      · rename_i hy
        exact ⟨.inl, fun z => z.elim id fun e => e ▸ hy⟩
      · simp
    rw [this]
    exact ⟨fun h => h.elim (fun a => a.elim .inl fun b => .inr (.inl b)) fun c => .inr (.inr c), fun h => h.elim (fun a => .inl (.inl a)) fun b => b.elim (fun c => .inl (.inr c)) .inr⟩
end PuS
namespace PuS
open PySem PySem.Spec PyProof.Rows L2 Pu
def ofStr (z : Str) : List Key := z.cps.toList.map fun c => Sum.inr ⟨#[c]⟩
def KeysOfV (K : PySem.W.Frag) (H : Hp) (x : V) (ks : List Key) : Prop := (∃ z, x = .str z ∧ ks = ofStr z) ∨ ∃ l, x = .ref l ∧ (SqL K H l (ks.map kV) ∨ SqT K H l (ks.map kV))
theorem dist_nodup {κ : Type} [DecidableEq κ] (l : List κ) : (dist l).Nodup := by
  suffices h : ∀ (l acc : List κ), acc.Nodup → (l.foldl dstep acc).Nodup from h l [] List.nodup_nil
  intro l
  induction l with
  | nil => exact fun acc h => h
  | cons y r ih =>
    intro acc h
    refine ih _ ?_
    unfold dstep
    split
    · exact h
    · rename_i ny
      exact List.nodup_append.mpr ⟨h, by simp, fun a ha b hb e => ny (by rw [List.mem_singleton.mp hb] at e; exact e ▸ ha)⟩
end PuS
namespace Pu
open PySem PySem.Spec PyProof.Rows L2 PuS
def kD : Key → PyData
  | .inl i => .int i
  | .inr z => .str z
/-- the keys in a datum -/
def KeysD (x : PyData) (ks : List Key) : Prop := (∃ z, x = .str z ∧ ks = ofStr z) ∨ x = .list (ks.map kD) ∨ x = .tuple (ks.map kD)
def tI (n : List Int) : PyData := .tuple (n.map .int)
def pLenSet : P1 := fun x P => (∃ ks, KeysD x ks ∧ ks.length + 1 < scanBound ∧ P (.int (dist ks).length)) ∨ ∃ ns : List (List Int), x = .list (ns.map tI) ∧ ns.length < 64 ∧ P (.int (dist ns).length)
def pSortSet (x : PyData) (P : List PyData → Prop) : Prop := ∃ zs : List Str, KeysD x (zs.map Sum.inr) ∧ zs.length + 1 < scanBound ∧ P ((asc zs).map .str)
section
variable {K : PySem.W.Frag} {pn : Pn} {b : Nat} {F H : Hp} {v : V}
theorem rvs_keys : ∀ {ks : List Key} {vs : List V}, RVs K F vs (ks.map kD) → vs = ks.map kV
  | [], _, .nil => rfl
  | .inl i :: ks, _, .cons r t => by
    cases r
    rw [rvs_keys t]
    rfl
  | .inr z :: ks, _, .cons r t => by
    cases r
    rw [rvs_keys t]
    rfl
theorem BV.keys {x : PyData} {ks : List Key} (o : Ok pn b F H) (h : BV K pn F H v x) (e : KeysD x ks) : KeysOfV K H v ks := by
  rcases e with ⟨z, rfl, rfl⟩ | rfl | rfl
  · exact .inl ⟨z, h.str, rfl⟩
  · obtain ⟨a, vs, rfl, ha, r⟩ := h.list o
    exact .inr ⟨a, rfl, .inl (SqL.of (by rw [← rvs_keys r]; exact ha))⟩
  · obtain ⟨a, vs, rfl, ha, r⟩ := h.tup o
    exact .inr ⟨a, rfl, .inr (by rw [← rvs_keys r]; exact ha)⟩
end
theorem hu64 {k : Nat} {A : Around} (r : Room k A) : A.units + 64 < cLine := by
  have := r.un
  omega
end Pu
namespace Pu
open PySem PySem.Spec PyProof.Rows L2
/-- sysModules is there, and is no list -/
def sysB (g : Addr → Option Obj) : Bool := match g sysModules with
  | some ⟨.type c, _, _, _⟩ => !decide (c = "list")
  | _ => false
def SysAt (h : Heap) : Prop := ∃ o, h.get? sysModules = some o ∧ o.cls ≠ .type "list"
theorem sysB_ok {h : Heap} (e : sysB h.get? = true) : SysAt h := by
  unfold sysB at e
  cases q : h.get? sysModules with
  | none => rw [q] at e; cases e
  | some o =>
    rw [q] at e
    obtain ⟨c, d, dt, sl⟩ := o
    cases c with
    | type n =>
      refine ⟨_, q, fun z => ?_⟩
      injection z with z
      have e' : (!decide (n = "list")) = true := e
      simp [z] at e'
    | _ => cases e
abbrev Tbl : Type := List (Str × List He.Dv)
def plB (K : PySem.W.Frag) (x : Str) : Bool := match K.lookup (He.ga K x) with
  | some o => o.dict.isNone
  | none => false
def obsC (fa : List He.Fa) (fn : List He.DefD) (tb : Tbl) (K : PySem.W.Frag) : Bool × He.AlD := (tb.all fun p => He.tupB K p.1 p.2 && plB K p.1, He.obsD fa fn K)
def SaysC (fa : List He.Fa) (fn : List He.DefD) (tb : Tbl) (K : PySem.W.Frag) : Prop := obsC fa fn tb K = (true, He.valD fn)
def obsCG (n : Nat) (fa : List He.Fa) (fn : List He.DefD) (tb : Tbl) (g : Addr → Option Obj) : Bool × Bool × He.AlD := (sysB g, obsC fa fn tb (He.frG g (He.asD g n)))
def hookC (n : Nat) (fa : List He.Fa) (fn : List He.DefD) (tb : Tbl) : PySem.W.Hook where
  α := Bool × Bool × He.AlD
  obs := fun s => obsCG n fa fn tb s.heap.get?
  val := fun _ => (true, true, He.valD fn)
  says := fun _ h => SysAt h ∧ ∃ K : PySem.W.Frag, K.In h ∧ SaysC fa fn tb K
  of := fun _ _ e => ⟨sysB_ok (congrArg (fun z : Bool × Bool × He.AlD => z.1) e), _, He.frG_in, congrArg (fun z : Bool × Bool × He.AlD => z.2) e⟩
  keeps := fun _ _ _ ⟨⟨o, e, n⟩, K, hK, c⟩ k => ⟨⟨o, k _ _ e, n⟩, K, PySem.W.Frag.In.keeps hK k, c⟩
theorem obsCG_eq {n : Nat} {fa : List He.Fa} {fn : List He.DefD} {tb : Tbl} {g : Addr → Option Obj} {s : Shared} (h : ∀ a, g a = s.heap.get? a) : obsCG n fa fn tb g = (hookC n fa fn tb).obs s := by
  obtain rfl : g = s.heap.get? := funext h
  rfl
section
variable {fa : List He.Fa} {fn : List He.DefD} {tb : Tbl} {K : PySem.W.Frag}
theorem SaysC.d (c : SaysC fa fn tb K) : He.SaysD fa fn K := congrArg (fun z : Bool × He.AlD => z.2) c
theorem SaysC.fact (c : SaysC fa fn tb K) (i : Nat) {f : He.Fa} (h : fa[i]? = some f := by rfl) : f.ok K = true := c.d.fact i h
theorem SaysC.def_ (c : SaysC fa fn tb K) (i : Nat) {d : He.DefD} (h : fn[i]? = some d := by rfl) : ∃ fd, FunD K d.name d.qual d.params d.body d.scope (d.dvs K) (d.kws K) (He.fAd K d.at_) fd := c.d.def_ i h
theorem SaysC.tup (c : SaysC fa fn tb K) (i : Nat) {x : Str} {vs : List He.Dv} (h : tb[i]? = some (x, vs) := by rfl) (H : Hp) : PlT K H (He.ga K x) (vs.map (He.Dv.v K)) := by
  have b := Bool.and_eq_true_iff.mp (List.all_eq_true.mp (congrArg (fun z : Bool × He.AlD => z.1) c) (x, vs) (List.mem_of_getElem? h))
  have p : plB K x = true := b.2
  rcases He.tupB_ok b.1 (fun _ => none) with (e | ⟨_, e⟩) | ⟨o, its, n, h1, h2, h3, h4, h5⟩
  · cases e
  · cases e
  · refine .inr ⟨o, its, n, h1, h2, h3, h4, h5, ?_⟩
    unfold plB at p
    rw [h1] at p
    exact Option.isNone_iff_eq_none.mp p
end
end Pu
namespace Pu
open PySem PySem.Spec PyProof.Rows L2
/-- the object at sysModules is there, untracked -/
structure NoSys (X : Cx) : Prop where
  gd : X.A.guards = some []
  there : ∃ o, X.s_0.heap.get? sysModules = some o
  un : X.H_0 sysModules = none
  ex : X.ex = []
section
variable {X : Cx} {pins : List (Addr × Obj)} {σ : L2.St} {F H : Hp} {s : Shared}
theorem NoSys.now (N : NoSys X) (I : Inv X pins σ H s) : H sysModules = none := by
  obtain ⟨o, e⟩ := N.there
  exact I.base.free _ o e N.un (by rw [N.ex]; simp)
mutual
theorem reads_of (I : Inv X pins σ H s) (sub : Same F H) : ∀ {v : V} {d : PyData} {u : Value}, RV X.K F v d → RelV v u → ∃ as, Reads s.heap u d as ∧ (H sysModules = none → sysModules ∉ as)
  | _, _, _, .non, r => by
    cases r
    exact ⟨_, .none, by simp⟩
  | _, _, _, .bl b, r => by
    cases r
    exact ⟨_, .bool _, by simp⟩
  | _, _, _, .int i, r => by
    obtain ⟨t, rfl⟩ := r
    exact ⟨_, .int _ _, by simp⟩
  | _, _, _, .str x, r => by
    obtain ⟨t, rfl⟩ := r
    exact ⟨_, .str _ _, by simp⟩
  | _, _, _, .lst (a := a) h q, r => by
    cases r
    obtain ⟨its, rv, pl, _⟩ := I.list (SqL.of (K := X.K) (sub _ _ h))
    obtain ⟨o, ho, hc, n, hd⟩ := pl.isList
    obtain ⟨as, ra, hn⟩ := readsAll_of I sub q rv
    refine ⟨_, .list ho hc hd (by simpa using ra), fun ns z => ?_⟩
    rcases List.mem_cons.mp z with z | z
    · have := sub _ _ h
      rw [← z, ns] at this
      cases this
    · exact hn ns z
  | _, _, _, .tup h q, r => by
    cases r
    obtain ⟨its, rv, ⟨o, ho, hc, n, hd⟩, _⟩ := I.tuple (Same.tup sub h.sq)
    obtain ⟨as, ra, hn⟩ := readsAll_of I sub q rv
    exact ⟨_, .tuple ho hc hd (by simpa using ra), hn⟩
  | _, _, _, .dct (a := a) h, r => by
    cases r
    obtain ⟨_, _, vs, kv, m⟩ := (show ObjOk X.prog X.w H s.heap a (.dK []) from I.hok a _ (sub _ _ h))
    have e0 : vs = [] := by cases kv; rfl
    subst e0
    obtain ⟨o, es, ep, ho, hx, hd, _, hp, _⟩ := m
    have sz : es.size = 0 := by
      have := hp.length
      simpa using this
    have e1 : es = #[] := Array.eq_empty_of_size_eq_zero sz
    subst e1
    refine ⟨_, .dict ho hx.1 hd .nil .nil, fun ns z => ?_⟩
    have z := List.mem_singleton.mp z
    have := sub _ _ h
    rw [← z, ns] at this
    cases this
theorem readsAll_of (I : Inv X pins σ H s) (sub : Same F H) : ∀ {vs : List V} {ds : List PyData} {us : List Value}, RVs X.K F vs ds → Vals vs us → ∃ as, ReadsAll s.heap us ds as ∧ (H sysModules = none → sysModules ∉ as)
  | _, _, _, .nil, .nil => ⟨_, .nil, by simp⟩
  | _, _, _, .cons r t, .cons u w => by
    obtain ⟨as, h1, n1⟩ := reads_of I sub r u
    obtain ⟨bs, h2, n2⟩ := readsAll_of I sub t w
    exact ⟨_, .cons h1 h2, fun ns z => (List.mem_append.mp z).elim (n1 ns) (n2 ns)⟩
end
end
theorem boot_repr : bootBuiltins "repr" = some (.builtin "repr") := by decide +kernel
end Pu
namespace Pu
open PySem PySem.Spec PyProof.Rows L2
def TopOk (P : Program) (w : World) (K : PySem.W.Frag) (mg : Str → Option Value) (base : Heap) (k : Nat) (f : Addr) (fd : FuncData) (ps : List Str) (sp : Sp) : Prop :=
  ∀ (A : Around) (outer : List Env) (s : Shared) (H : Hp) (args : Args) (us : List Value) (vs : List V) (Q : VK) (E : XK), Room k A → A.guards = some [] → (∃ o, s.heap.get? sysModules = some o) → H sysModules = none →
    Env0 P w K mg base A outer s H → BindsTo s fd args (ps.zip us) → Vals vs us → sp vs H Q E → codeAny (model P w) A (.call (.ref f) args) (CR CX0 outer P w H s Q E) s
section
variable {P : Program} {w : World} {K : PySem.W.Frag} {mg : Str → Option Value} {base : Heap}
theorem top_ok {x qual : Str} {st : Stmt} {f : Addr} {fd : FuncData} {N ps : List Str} {k : Nat} {sp : Sp} (F : Fun K x qual st f fd) (S : FnScope N ps (defScope st)) (len : ∀ vs H Q E, sp vs H Q E → vs.length = ps.length)
    (body : ∀ (cdv : Value) (A : Around) (outer : List Env) (s : Shared) (H : Hp) (vs : List V) (Q : VK) (E : XK), Room k (A.deeper (envOfC qual (defScope st) s.heap.objs.size f cdv)) → NoSys (cxOf CX0 P w K mg base N qual (defScope st) f cdv A outer s H E).nox → sp vs H Q E →
      ∃ t, PSs (cxOf CX0 P w K mg base N qual (defScope st) f cdv A outer s H E).nox (defBody st) t ∧ t { nx := fun _ H' => Q .non H', rt := Q } (start N vs) H) :
    TopOk P w K mg base (k + 1) f fd ps sp := by
  intro A outer s H args us vs Q E hr gd th un e0 hb r hs
  obtain ⟨oc, od, kV, doc, pm, an, cdv, ct, osl, rfl, lk, hcd⟩ := F.ex
  have KX : K.In s.heap := e0.mod.kin.keeps fun b o e => (e0.bs b o e).1
  have nl : s.heap.NoLimit := e0.mod.nolimit.keeps fun b o e => (e0.bs b o e).1
  have kinds : ∀ y ∈ ps.zip us, (defScope st).names.lookup y.1 = some .local ∨ ((defScope st).names.lookup y.1 = some .cell ∧ ((cellsFrom (s.heap.objs.size + 1) (defScope st).names []).lookup y.1).isSome = true) := fun y hy =>
    (S.par y.1 (List.of_mem_zip (a := y.1) (b := y.2) hy).1).imp id fun q => ⟨q, PySem.W.cellsFrom_some _ _ _ (.inl q)⟩
  refine codeAny_call_function hr.depth (KX _ _ lk) rfl S.co S.gen rfl (PySem.W.codeRec_of KX hcd) (hb _ _ _ _ (wpAny_newFunctionEnv_cells S.kind kinds fun env he s1 x => ?_))
  subst he
  obtain ⟨t, ht, hq⟩ := body cdv A outer s H vs Q E (hr.deeper _) ⟨gd, th, un, rfl⟩ hs
  have I := inv_start (CX := CX0) (E := E) S hr.hd e0 (len _ _ _ _ hs) r x
  have fin : ∀ {σ' : L2.St} {H' : Hp} {v : V} {u : Value} {s' : Shared}, Inv (cxOf CX0 P w K mg base N qual (defScope st) f cdv A outer s H E) [] σ' H' s' → RelV v u → Q v H' → CE outer P w H s Q u s' := fun J rv q => ⟨_, _, J.os, J.bare, J.base, J.hok, rv, q⟩
  refine ⟨nl.keeps x.toInCall.keep, codeAny_func (wpAny_mono (ht.nox.run [] s1 (start N vs) H _ I hq) (fun fl s' z => ?_) fun e s' z => z)⟩
  cases fl with
  | ret u => obtain ⟨v, σ', H', J, rv, q⟩ := z; exact fin J rv q
  | next => obtain ⟨σ', H', J, q⟩ := z; exact fin (v := V.non) (u := Value.none) J rfl q
  | brk => obtain ⟨_, _, _, q⟩ := z; exact False.elim q
  | cont => obtain ⟨_, _, _, q⟩ := z; exact False.elim q
end
theorem walk_ofG {l : PySem.W.OpenLaw} {n k : Nat} {q : Program} {loose : List Str} {XP : (Str → Option Value) → Heap → Prop} {YP : World → Heap → Prop} {d : DefRec} {x : Str} (hn : l.most = some n) (hn2 : n ≤ sizeLine) (hdf : d.params.defaults = []) (hr : Room k callerA)
    (F : ∀ (w : World) (mg : Str → Option Value) (fa : Addr) (h : Heap), YP w h → h.Ns mainGlobals mg → mg d.name = some (.ref fa) → SysAt h ∧ ∃ (K : PySem.W.Frag) (fd : FuncData) (sp : Sp), K.In h ∧ (∀ (s : Shared) (u : Value), BindsTo s fd ⟨[u], []⟩ [(x, u)]) ∧
      (∀ (H : Hp) (a : Addr) (ns : List Int), ns.length ≤ n → SqL K H a (ns.map V.int) → sp [.ref a] H (fun v _ => v = .bl true) fun _ _ _ => False) ∧ ∀ base : Heap, K.In base → base.Ns mainGlobals mg → TopOk l.prog w K mg base k fa fd [x] sp) :
    PySem.W.WalkO q loose XP YP l.row.toRowW d [] (fun f vs => PySem.call f vs) := by
  refine Att.attach_call hn hdf fun w s₀ s₁ mg mb fa o pm cd doc a vs ns G Y ho hd hcd hmg hobj hints hlen hg => ?_
  obtain ⟨⟨os, so, sn⟩, K, fd, sp, KX, hb, hsp, run⟩ := F w mg fa _ Y G.T.g hmg
  have rv := vals_ints hints
  have nsys : a ≠ sysModules := fun z => by
    rw [z, so] at hobj
    cases hobj
    exact sn rfl
  have seqs : ∀ {b : Addr} {ob : Obj} {es : Array DictEntry} {ep : Nat}, s₁.heap.get? b = some ob → ob.data = .dict es ep → b ≠ a := fun e1 e2 z => by
    rw [z, hobj] at e1
    cases e1
    have e3 : Data.seq vs.toArray _ = Data.dict _ _ := e2
    cases e3
  -- the script may be an object of the module; else it is tracked, frozen
  have both : ∃ H : Hp, SqL K H a (ns.map V.int) ∧ HOk l.prog w H s₁.heap ∧ (∀ b, b ≠ a → H b = none) ∧ (∀ u, H a = some u → K.lookup a = none ∧ ∃ ob ys, u = .frz ob (.lst ys)) := by
    have fits : (ns.map V.int).length ≤ sizeLine := by rw [List.length_map]; exact Nat.le_trans hlen hn2
    cases lk : K.lookup a with
    | some ob =>
      have e := KX a ob lk
      rw [hobj] at e
      cases e
      exact ⟨fun _ => none, .inr ⟨_, vs.toArray, _, lk, rfl, rfl, rfl, by rw [List.size_toArray, hints.length]; exact Nat.le_trans hlen hn2, by simpa using rv⟩, fun b u z => (by have z' : (none : Option HO) = some u := z; cases z'), fun _ _ => rfl, fun u z => (by have z' : (none : Option HO) = some u := z; cases z')⟩
    | none =>
      refine ⟨fun b => if b = a then some (.frz { cls := .type "list", data := .seq vs.toArray } (.lst (ns.map V.int))) else none, .inl (.inr ⟨_, if_pos rfl⟩), fun b u z => ?_, fun b ne => if_neg ne, fun u z => ⟨rfl, ?_⟩⟩
      · by_cases e : b = a
        · have z' := (if_pos e).symm.trans z
          cases z'
          subst e
          exact ⟨hobj, fits, vs, _, rv, hobj⟩
        · have z' := (if_neg e).symm.trans z
          cases z'
      · have z' := (if_pos rfl).symm.trans z
        cases z'
        exact ⟨_, _, rfl⟩
  obtain ⟨H, hS, hok, hOther, hA⟩ := both
  have free : ∀ {b : Addr} {ob : Obj}, s₁.heap.get? b = some ob → H b = none → (hidT s₁.heap H).get? b = some ob := fun e1 e2 => hidT_get e1 e2
  have nss : ∀ {b : Addr} {m : Str → Option Value}, s₁.heap.Ns b m → (hidT s₁.heap H).Ns b m := fun ⟨ob, es, ep, e1, e2, r⟩ => ⟨ob, es, ep, free e1 (hOther _ (seqs e1 e2)), e2, r⟩
  have KB : K.In (hidT s₁.heap H) := fun b ob e => free (KX b ob e) (by
    by_cases z : b = a
    · subst z
      cases h : H b with
      | none => rfl
      | some u => rw [(hA u h).1] at e; cases e
    · exact hOther b z)
  have md : Mod K mg (hidT s₁.heap H) := ⟨KB, nss G.T.g, ⟨mb, nss G.T.b, G.T.builtins⟩, let ⟨mc, h1, h2⟩ := G.T.nolimit; ⟨mc, nss h1, h2⟩⟩
  have e0 : Env0 l.prog w K mg (hidT s₁.heap H) callerA [] s₁ H := ⟨rfl, md, fun b ob e => of_hidT e, Nat.le_of_eq (hidT_size _ _), trivial, (fun b z => absurd (show b ∈ ([] : List Addr) from z) (by simp)), hok, .of_eq hg⟩
  refine codeAny_mono (run _ KB (nss G.T.g) callerA [] s₁ H ⟨[.ref a], []⟩ [.ref a] [.ref a] _ _ hr rfl ⟨os, so⟩ (hOther _ nsys.symm) e0 (hb s₁ (.ref a)) (.cons rfl .nil) (hsp H a ns hlen hS)) fun r s' h => ?_
  match r, h with
  | .error e, h => exact False.elim h
  | .ok .next, h => exact False.elim h
  | .ok .brk, h => exact False.elim h
  | .ok .cont, h => exact False.elim h
  | .ok (.ret u), ⟨v, H', os', bare, un, hok', r', q⟩ =>
    have q : v = .bl true := q
    subst q
    obtain rfl : u = Value.bool true := r'
    refine ⟨rfl, OldK.of_keep fun b ob e => ?_, os', bare⟩
    cases h : H b with
    | none => exact un.keep b ob e h (fun z => absurd (show b ∈ ([] : List Addr) from z) (by simp)) (by simp)
    | some u =>
      by_cases z : b = a
      · subst z
        obtain ⟨_, ob2, ys, rfl⟩ := hA u h
        have e1 := (hok b _ h).1
        have e2 := (hok' b _ (un.frzs b ob2 _ h)).1
        rw [e] at e1
        cases e1
        exact e2
      · rw [hOther b z] at h
        cases h
end Pu
namespace PySem
namespace SeqAt
open PySem
open MeetsSeq MeetsSeq2 MeetsSeq3 SeqRoads2
/-- a dict's object -/
def DictOb (h : Heap) (l : Addr) : Prop := ∃ es n dd sl, h.get? l = some { cls := .type "dict", dict := dd, data := .dict es n, slots := sl }
theorem dsub_none : isSubtype (.type "NoneType") (.type "dict") = pure false := by rw [isSubtype_type]; kernel_rfl
theorem dsup_none : isSubtype (.type "dict") (.type "NoneType") = pure false := by rw [isSubtype_type]; kernel_rfl
theorem dict_no_none (l : Addr) (es : Array DictEntry) (n : Nat) (dd : Option Addr) (sl : Array (Option Value))  : Meets (Builtin.«dict.__eq__» ⟨[.ref l, .none], []⟩) (fun _ R s => s.heap.get? l = some { cls := .type "dict", dict := dd, data := .dict es n, slots := sl } ∧ R (.ok (.ret .notImplemented)) s) :=
  .of_wp fun prog w A R s h => by
    obtain ⟨hp, g, d, tk, os⟩ := s
    obtain ⟨hl, h⟩ := h
    have f1 := dsub_none
    wp_walk using AutoSeq1.wpAny_loadPart' hl, wpAny_load hl
    exact ⟨_, rfl, h⟩
theorem none_no_dict (l : Addr) (es : Array DictEntry) (n : Nat) (dd : Option Addr) (sl : Array (Option Value))  : Meets (Builtin.«NoneType.__eq__» ⟨[.none, .ref l], []⟩) (fun _ R s => s.heap.get? l = some { cls := .type "dict", dict := dd, data := .dict es n, slots := sl } ∧ R (.ok (.ret .notImplemented)) s) :=
  .of_wp fun prog w A R s h => by
    obtain ⟨hp, g, d, tk, os⟩ := s
    obtain ⟨hl, h⟩ := h
    wp_walk using AutoSeq1.wpAny_loadPart' hl, wpAny_load hl
    exact ⟨_, rfl, h⟩
theorem dsub_bool : isSubtype (.type "bool") (.type "dict") = pure false := by rw [isSubtype_type]; kernel_rfl
theorem dsup_bool : isSubtype (.type "dict") (.type "bool") = pure false := by rw [isSubtype_type]; kernel_rfl
theorem dict_no_bool (l : Addr) (es : Array DictEntry) (n : Nat) (dd : Option Addr) (sl : Array (Option Value)) (b : Bool) : Meets (Builtin.«dict.__eq__» ⟨[.ref l, (.bool b)], []⟩) (fun _ R s => s.heap.get? l = some { cls := .type "dict", dict := dd, data := .dict es n, slots := sl } ∧ R (.ok (.ret .notImplemented)) s) :=
  .of_wp fun prog w A R s h => by
    obtain ⟨hp, g, d, tk, os⟩ := s
    obtain ⟨hl, h⟩ := h
    have f1 := dsub_bool
    wp_walk using AutoSeq1.wpAny_loadPart' hl, wpAny_load hl
    exact ⟨_, rfl, h⟩
theorem bool_no_dict (l : Addr) (es : Array DictEntry) (n : Nat) (dd : Option Addr) (sl : Array (Option Value)) (b : Bool) : Meets (Builtin.«int.__eq__» ⟨[(.bool b), .ref l], []⟩) (fun _ R s => s.heap.get? l = some { cls := .type "dict", dict := dd, data := .dict es n, slots := sl } ∧ R (.ok (.ret .notImplemented)) s) :=
  .of_wp fun prog w A R s h => by
    obtain ⟨hp, g, d, tk, os⟩ := s
    obtain ⟨hl, h⟩ := h
    wp_walk using AutoSeq1.wpAny_loadPart' hl, wpAny_load hl
    exact ⟨_, rfl, h⟩
theorem dsub_int : isSubtype (.type "int") (.type "dict") = pure false := by rw [isSubtype_type]; kernel_rfl
theorem dsup_int : isSubtype (.type "dict") (.type "int") = pure false := by rw [isSubtype_type]; kernel_rfl
theorem dict_no_int (l : Addr) (es : Array DictEntry) (n : Nat) (dd : Option Addr) (sl : Array (Option Value)) (b : Int) (u : Tok) : Meets (Builtin.«dict.__eq__» ⟨[.ref l, (.int b u)], []⟩) (fun _ R s => s.heap.get? l = some { cls := .type "dict", dict := dd, data := .dict es n, slots := sl } ∧ R (.ok (.ret .notImplemented)) s) :=
  .of_wp fun prog w A R s h => by
    obtain ⟨hp, g, d, tk, os⟩ := s
    obtain ⟨hl, h⟩ := h
    have f1 := dsub_int
    wp_walk using AutoSeq1.wpAny_loadPart' hl, wpAny_load hl
    exact ⟨_, rfl, h⟩
theorem int_no_dict (l : Addr) (es : Array DictEntry) (n : Nat) (dd : Option Addr) (sl : Array (Option Value)) (b : Int) (u : Tok) : Meets (Builtin.«int.__eq__» ⟨[(.int b u), .ref l], []⟩) (fun _ R s => s.heap.get? l = some { cls := .type "dict", dict := dd, data := .dict es n, slots := sl } ∧ R (.ok (.ret .notImplemented)) s) :=
  .of_wp fun prog w A R s h => by
    obtain ⟨hp, g, d, tk, os⟩ := s
    obtain ⟨hl, h⟩ := h
    wp_walk using AutoSeq1.wpAny_loadPart' hl, wpAny_load hl
    exact ⟨_, rfl, h⟩
theorem dsub_str : isSubtype (.type "str") (.type "dict") = pure false := by rw [isSubtype_type]; kernel_rfl
theorem dsup_str : isSubtype (.type "dict") (.type "str") = pure false := by rw [isSubtype_type]; kernel_rfl
theorem dict_no_str (l : Addr) (es : Array DictEntry) (n : Nat) (dd : Option Addr) (sl : Array (Option Value)) (b : Str) (u : Tok) : Meets (Builtin.«dict.__eq__» ⟨[.ref l, (.str b u)], []⟩) (fun _ R s => s.heap.get? l = some { cls := .type "dict", dict := dd, data := .dict es n, slots := sl } ∧ R (.ok (.ret .notImplemented)) s) :=
  .of_wp fun prog w A R s h => by
    obtain ⟨hp, g, d, tk, os⟩ := s
    obtain ⟨hl, h⟩ := h
    have f1 := dsub_str
    wp_walk using AutoSeq1.wpAny_loadPart' hl, wpAny_load hl
    exact ⟨_, rfl, h⟩
theorem str_no_dict (l : Addr) (es : Array DictEntry) (n : Nat) (dd : Option Addr) (sl : Array (Option Value)) (b : Str) (u : Tok) : Meets (Builtin.«str.__eq__» ⟨[(.str b u), .ref l], []⟩) (fun _ R s => s.heap.get? l = some { cls := .type "dict", dict := dd, data := .dict es n, slots := sl } ∧ R (.ok (.ret .notImplemented)) s) :=
  .of_wp fun prog w A R s h => by
    obtain ⟨hp, g, d, tk, os⟩ := s
    obtain ⟨hl, h⟩ := h
    wp_walk using AutoSeq1.wpAny_loadPart' hl, wpAny_load hl
    exact ⟨_, rfl, h⟩
section
variable {A : Around} {s : Shared}
theorem RcAt.dict_none {l : Addr}  (hl : DictOb s.heap l) (hu : A.units < cLine) : RcAt A s (.ref l) .none false := fun prog w E Q h => by
  obtain ⟨es, n, dd, sl, ho⟩ := hl
  exact rc_eq_decline_or (k := false) ⟨_, ho, rfl⟩ rfl (by decide) dsub_none F.slot_dict_eq F.slot_NoneType_eq_refl
    (fun _ hq => call_meets F.slot_dict_eq ⟨_, ho, rfl⟩ F.entry_dict_eq (F.args_dict_eq_2 _ _) (dict_no_none l es n dd sl ) ⟨ho, hq⟩)
    (fun _ hq => call_meets F.slot_NoneType_eq_refl rfl F.entry_NoneType_eq (F.args_NoneType_eq_2 _ _) (none_no_dict l es n dd sl ) ⟨ho, hq⟩)
    (fun _ hq => wpAny_of_eq (rfl : isSame (.ref l) .none = pure false) hq) (.inr hu) h
theorem RcAt.none_dict {l : Addr}  (hl : DictOb s.heap l) (hu : A.units < cLine) : RcAt A s .none (.ref l) false := fun prog w E Q h => by
  obtain ⟨es, n, dd, sl, ho⟩ := hl
  exact rc_eq_decline_or (k := false) rfl ⟨_, ho, rfl⟩ (by decide) dsup_none F.slot_NoneType_eq F.slot_dict_eq_refl
    (fun _ hq => call_meets F.slot_NoneType_eq rfl F.entry_NoneType_eq (F.args_NoneType_eq_2 _ _) (none_no_dict l es n dd sl ) ⟨ho, hq⟩)
    (fun _ hq => call_meets F.slot_dict_eq_refl ⟨_, ho, rfl⟩ F.entry_dict_eq (F.args_dict_eq_2 _ _) (dict_no_none l es n dd sl ) ⟨ho, hq⟩)
    (fun _ hq => wpAny_of_eq (rfl : isSame .none (.ref l) = pure false) hq) (.inr hu) h
theorem EqAt.dict_none {l : Addr}  (hl : DictOb s.heap l) (hu : A.units < cLine) : EqAt A s (.ref l) .none false := fun prog w E Q h => by
  unfold eqBool
  refine wpAny_holding (wpAny_ite_split (fun hab => absurd (eq_of_beq hab) nofun) (fun _ => wpAny_bind (RcAt.dict_none  hl hu prog w E _ (wpAny_truthy_bool h))))
theorem EqAt.none_dict {l : Addr}  (hl : DictOb s.heap l) (hu : A.units < cLine) : EqAt A s .none (.ref l) false := fun prog w E Q h => by
  unfold eqBool
  refine wpAny_holding (wpAny_ite_split (fun hab => absurd (eq_of_beq hab) nofun) (fun _ => wpAny_bind (RcAt.none_dict  hl hu prog w E _ (wpAny_truthy_bool h))))
theorem RcAt.dict_bool {l : Addr} (b : Bool) (hl : DictOb s.heap l) (hu : A.units < cLine) : RcAt A s (.ref l) (.bool b) false := fun prog w E Q h => by
  obtain ⟨es, n, dd, sl, ho⟩ := hl
  exact rc_eq_decline_or (k := false) ⟨_, ho, rfl⟩ rfl (by decide) dsub_bool F.slot_dict_eq F.slot_bool_eq_refl
    (fun _ hq => call_meets F.slot_dict_eq ⟨_, ho, rfl⟩ F.entry_dict_eq (F.args_dict_eq_2 _ _) (dict_no_bool l es n dd sl b) ⟨ho, hq⟩)
    (fun _ hq => call_meets F.slot_bool_eq_refl rfl F.entry_int_eq (F.args_int_eq_2 _ _) (bool_no_dict l es n dd sl b) ⟨ho, hq⟩)
    (fun _ hq => wpAny_of_eq (rfl : isSame (.ref l) (.bool b) = pure false) hq) (.inr hu) h
theorem RcAt.bool_dict {l : Addr} (b : Bool) (hl : DictOb s.heap l) (hu : A.units < cLine) : RcAt A s (.bool b) (.ref l) false := fun prog w E Q h => by
  obtain ⟨es, n, dd, sl, ho⟩ := hl
  exact rc_eq_decline_or (k := false) rfl ⟨_, ho, rfl⟩ (by decide) dsup_bool F.slot_bool_eq F.slot_dict_eq_refl
    (fun _ hq => call_meets F.slot_bool_eq rfl F.entry_int_eq (F.args_int_eq_2 _ _) (bool_no_dict l es n dd sl b) ⟨ho, hq⟩)
    (fun _ hq => call_meets F.slot_dict_eq_refl ⟨_, ho, rfl⟩ F.entry_dict_eq (F.args_dict_eq_2 _ _) (dict_no_bool l es n dd sl b) ⟨ho, hq⟩)
    (fun _ hq => wpAny_of_eq (rfl : isSame (.bool b) (.ref l) = pure false) hq) (.inr hu) h
theorem EqAt.dict_bool {l : Addr} (b : Bool) (hl : DictOb s.heap l) (hu : A.units < cLine) : EqAt A s (.ref l) (.bool b) false := fun prog w E Q h => by
  unfold eqBool
  refine wpAny_holding (wpAny_ite_split (fun hab => absurd (eq_of_beq hab) nofun) (fun _ => wpAny_bind (RcAt.dict_bool b hl hu prog w E _ (wpAny_truthy_bool h))))
theorem EqAt.bool_dict {l : Addr} (b : Bool) (hl : DictOb s.heap l) (hu : A.units < cLine) : EqAt A s (.bool b) (.ref l) false := fun prog w E Q h => by
  unfold eqBool
  refine wpAny_holding (wpAny_ite_split (fun hab => absurd (eq_of_beq hab) nofun) (fun _ => wpAny_bind (RcAt.bool_dict b hl hu prog w E _ (wpAny_truthy_bool h))))
theorem RcAt.dict_int {l : Addr} (b : Int) (u : Tok) (hl : DictOb s.heap l) (hu : A.units < cLine) : RcAt A s (.ref l) (.int b u) false := fun prog w E Q h => by
  obtain ⟨es, n, dd, sl, ho⟩ := hl
  exact rc_eq_decline_or (k := false) ⟨_, ho, rfl⟩ (typeIs_int s b u) (by decide) dsub_int F.slot_dict_eq F.slot_int_eq_refl
    (fun _ hq => call_meets F.slot_dict_eq ⟨_, ho, rfl⟩ F.entry_dict_eq (F.args_dict_eq_2 _ _) (dict_no_int l es n dd sl b u) ⟨ho, hq⟩)
    (fun _ hq => call_meets F.slot_int_eq_refl (typeIs_int s b u) F.entry_int_eq (F.args_int_eq_2 _ _) (int_no_dict l es n dd sl b u) ⟨ho, hq⟩)
    (fun _ hq => wpAny_of_eq (rfl : isSame (.ref l) (.int b u) = pure false) hq) (.inr hu) h
theorem RcAt.int_dict {l : Addr} (b : Int) (u : Tok) (hl : DictOb s.heap l) (hu : A.units < cLine) : RcAt A s (.int b u) (.ref l) false := fun prog w E Q h => by
  obtain ⟨es, n, dd, sl, ho⟩ := hl
  exact rc_eq_decline_or (k := false) (typeIs_int s b u) ⟨_, ho, rfl⟩ (by decide) dsup_int F.slot_int_eq F.slot_dict_eq_refl
    (fun _ hq => call_meets F.slot_int_eq (typeIs_int s b u) F.entry_int_eq (F.args_int_eq_2 _ _) (int_no_dict l es n dd sl b u) ⟨ho, hq⟩)
    (fun _ hq => call_meets F.slot_dict_eq_refl ⟨_, ho, rfl⟩ F.entry_dict_eq (F.args_dict_eq_2 _ _) (dict_no_int l es n dd sl b u) ⟨ho, hq⟩)
    (fun _ hq => wpAny_of_eq (rfl : isSame (.int b u) (.ref l) = pure false) hq) (.inr hu) h
theorem EqAt.dict_int {l : Addr} (b : Int) (u : Tok) (hl : DictOb s.heap l) (hu : A.units < cLine) : EqAt A s (.ref l) (.int b u) false := fun prog w E Q h => by
  unfold eqBool
  refine wpAny_holding (wpAny_ite_split (fun hab => absurd (eq_of_beq hab) nofun) (fun _ => wpAny_bind (RcAt.dict_int b u hl hu prog w E _ (wpAny_truthy_bool h))))
theorem EqAt.int_dict {l : Addr} (b : Int) (u : Tok) (hl : DictOb s.heap l) (hu : A.units < cLine) : EqAt A s (.int b u) (.ref l) false := fun prog w E Q h => by
  unfold eqBool
  refine wpAny_holding (wpAny_ite_split (fun hab => absurd (eq_of_beq hab) nofun) (fun _ => wpAny_bind (RcAt.int_dict b u hl hu prog w E _ (wpAny_truthy_bool h))))
theorem RcAt.dict_str {l : Addr} (b : Str) (u : Tok) (hl : DictOb s.heap l) (hu : A.units < cLine) : RcAt A s (.ref l) (.str b u) false := fun prog w E Q h => by
  obtain ⟨es, n, dd, sl, ho⟩ := hl
  exact rc_eq_decline_or (k := false) ⟨_, ho, rfl⟩ (typeIs_str s b u) (by decide) dsub_str F.slot_dict_eq F.slot_str_eq_refl
    (fun _ hq => call_meets F.slot_dict_eq ⟨_, ho, rfl⟩ F.entry_dict_eq (F.args_dict_eq_2 _ _) (dict_no_str l es n dd sl b u) ⟨ho, hq⟩)
    (fun _ hq => call_meets F.slot_str_eq_refl (typeIs_str s b u) F.entry_str_eq (F.args_str_eq_2 _ _) (str_no_dict l es n dd sl b u) ⟨ho, hq⟩)
    (fun _ hq => wpAny_of_eq (rfl : isSame (.ref l) (.str b u) = pure false) hq) (.inr hu) h
theorem RcAt.str_dict {l : Addr} (b : Str) (u : Tok) (hl : DictOb s.heap l) (hu : A.units < cLine) : RcAt A s (.str b u) (.ref l) false := fun prog w E Q h => by
  obtain ⟨es, n, dd, sl, ho⟩ := hl
  exact rc_eq_decline_or (k := false) (typeIs_str s b u) ⟨_, ho, rfl⟩ (by decide) dsup_str F.slot_str_eq F.slot_dict_eq_refl
    (fun _ hq => call_meets F.slot_str_eq (typeIs_str s b u) F.entry_str_eq (F.args_str_eq_2 _ _) (str_no_dict l es n dd sl b u) ⟨ho, hq⟩)
    (fun _ hq => call_meets F.slot_dict_eq_refl ⟨_, ho, rfl⟩ F.entry_dict_eq (F.args_dict_eq_2 _ _) (dict_no_str l es n dd sl b u) ⟨ho, hq⟩)
    (fun _ hq => wpAny_of_eq (rfl : isSame (.str b u) (.ref l) = pure false) hq) (.inr hu) h
theorem EqAt.dict_str {l : Addr} (b : Str) (u : Tok) (hl : DictOb s.heap l) (hu : A.units < cLine) : EqAt A s (.ref l) (.str b u) false := fun prog w E Q h => by
  unfold eqBool
  refine wpAny_holding (wpAny_ite_split (fun hab => absurd (eq_of_beq hab) nofun) (fun _ => wpAny_bind (RcAt.dict_str b u hl hu prog w E _ (wpAny_truthy_bool h))))
theorem EqAt.str_dict {l : Addr} (b : Str) (u : Tok) (hl : DictOb s.heap l) (hu : A.units < cLine) : EqAt A s (.str b u) (.ref l) false := fun prog w E Q h => by
  unfold eqBool
  refine wpAny_holding (wpAny_ite_split (fun hab => absurd (eq_of_beq hab) nofun) (fun _ => wpAny_bind (RcAt.str_dict b u hl hu prog w E _ (wpAny_truthy_bool h))))
end
theorem dsub_list : isSubtype (.type "list") (.type "dict") = pure false := by rw [isSubtype_type]; kernel_rfl
theorem dsup_list : isSubtype (.type "dict") (.type "list") = pure false := by rw [isSubtype_type]; kernel_rfl
theorem dict_no_list (l : Addr) (es : Array DictEntry) (n : Nat) (dd : Option Addr) (sl : Array (Option Value)) (b : Addr) (items : Array Value) (n2 : Nat) (dd2 : Option Addr) (sl2 : Array (Option Value)) : Meets (Builtin.«dict.__eq__» ⟨[.ref l, .ref b], []⟩) (fun _ R s => s.heap.get? l = some { cls := .type "dict", dict := dd, data := .dict es n, slots := sl } ∧ s.heap.get? b = some { cls := .type "list", dict := dd2, data := .seq items n2, slots := sl2 } ∧ R (.ok (.ret .notImplemented)) s) :=
  .of_wp fun prog w A R s h => by
    obtain ⟨hp, g, d, tk, os⟩ := s
    obtain ⟨hl, hb, h⟩ := h
    have f1 := dsub_list
    wp_walk using AutoSeq1.wpAny_loadPart' hl, wpAny_load hl, AutoSeq1.wpAny_loadPart' hb, wpAny_load hb
    exact ⟨_, rfl, h⟩
theorem list_no_dict (l : Addr) (es : Array DictEntry) (n : Nat) (dd : Option Addr) (sl : Array (Option Value)) (b : Addr) (items : Array Value) (n2 : Nat) (dd2 : Option Addr) (sl2 : Array (Option Value)) : Meets (Builtin.«list.__eq__» ⟨[.ref b, .ref l], []⟩) (fun _ R s => s.heap.get? l = some { cls := .type "dict", dict := dd, data := .dict es n, slots := sl } ∧ s.heap.get? b = some { cls := .type "list", dict := dd2, data := .seq items n2, slots := sl2 } ∧ R (.ok (.ret .notImplemented)) s) :=
  .of_wp fun prog w A R s h => by
    obtain ⟨hp, g, d, tk, os⟩ := s
    obtain ⟨hl, hb, h⟩ := h
    have f1 := dsup_list
    wp_walk using AutoSeq1.wpAny_loadPart' hl, wpAny_load hl, AutoSeq1.wpAny_loadPart' hb, wpAny_load hb
    exact ⟨_, rfl, h⟩
theorem dsub_tuple : isSubtype (.type "tuple") (.type "dict") = pure false := by rw [isSubtype_type]; kernel_rfl
theorem dsup_tuple : isSubtype (.type "dict") (.type "tuple") = pure false := by rw [isSubtype_type]; kernel_rfl
theorem dict_no_tuple (l : Addr) (es : Array DictEntry) (n : Nat) (dd : Option Addr) (sl : Array (Option Value)) (b : Addr) (items : Array Value) (n2 : Nat) (dd2 : Option Addr) (sl2 : Array (Option Value)) : Meets (Builtin.«dict.__eq__» ⟨[.ref l, .ref b], []⟩) (fun _ R s => s.heap.get? l = some { cls := .type "dict", dict := dd, data := .dict es n, slots := sl } ∧ s.heap.get? b = some { cls := .type "tuple", dict := dd2, data := .seq items n2, slots := sl2 } ∧ R (.ok (.ret .notImplemented)) s) :=
  .of_wp fun prog w A R s h => by
    obtain ⟨hp, g, d, tk, os⟩ := s
    obtain ⟨hl, hb, h⟩ := h
    have f1 := dsub_tuple
    wp_walk using AutoSeq1.wpAny_loadPart' hl, wpAny_load hl, AutoSeq1.wpAny_loadPart' hb, wpAny_load hb
    exact ⟨_, rfl, h⟩
theorem tuple_no_dict (l : Addr) (es : Array DictEntry) (n : Nat) (dd : Option Addr) (sl : Array (Option Value)) (b : Addr) (items : Array Value) (n2 : Nat) (dd2 : Option Addr) (sl2 : Array (Option Value)) : Meets (Builtin.«tuple.__eq__» ⟨[.ref b, .ref l], []⟩) (fun _ R s => s.heap.get? l = some { cls := .type "dict", dict := dd, data := .dict es n, slots := sl } ∧ s.heap.get? b = some { cls := .type "tuple", dict := dd2, data := .seq items n2, slots := sl2 } ∧ R (.ok (.ret .notImplemented)) s) :=
  .of_wp fun prog w A R s h => by
    obtain ⟨hp, g, d, tk, os⟩ := s
    obtain ⟨hl, hb, h⟩ := h
    have f1 := dsup_tuple
    wp_walk using AutoSeq1.wpAny_loadPart' hl, wpAny_load hl, AutoSeq1.wpAny_loadPart' hb, wpAny_load hb
    exact ⟨_, rfl, h⟩
section
variable {A : Around} {s : Shared}
theorem ne_dict_list {l b : Addr} {items : Array Value} (hl : DictOb s.heap l) (hb : s.heap.IsList b items) : l ≠ b := fun e => by
  subst e
  obtain ⟨es, n, dd, sl, ho⟩ := hl
  obtain ⟨o2, ho2, hc2, _⟩ := hb
  rw [ho] at ho2
  cases ho2
  exact absurd hc2 (by simp)
theorem RcAt.dict_list {l b : Addr} {items : Array Value} (hl : DictOb s.heap l) (hb : s.heap.IsList b items) (hu : A.units < cLine) : RcAt A s (.ref l) (.ref b) false := fun prog w E Q h => by
  have hne := ne_dict_list hl hb
  obtain ⟨es, n, dd, sl, ho⟩ := hl
  obtain ⟨⟨cls2, dd2, data2, sl2⟩, ho2, hc2, n2, hd2⟩ := id hb
  simp only at hc2 hd2
  subst hc2 hd2
  exact rc_eq_decline_or (k := false) ⟨_, ho, rfl⟩ ⟨_, ho2, rfl⟩ (by decide) dsub_list F.slot_dict_eq F.slot_list_eq_refl
    (fun _ hq => call_meets F.slot_dict_eq ⟨_, ho, rfl⟩ F.entry_dict_eq (F.args_dict_eq_2 _ _) (dict_no_list l es n dd sl b items n2 dd2 sl2) ⟨ho, ho2, hq⟩)
    (fun _ hq => call_meets F.slot_list_eq_refl ⟨_, ho2, rfl⟩ F.entry_list_eq (F.args_list_eq_2 _ _) (list_no_dict l es n dd sl b items n2 dd2 sl2) ⟨ho, ho2, hq⟩)
    (fun _ hq => wpAny_isSame_ref_other' hne ho ho2 (by simp) hq) (.inr hu) h
theorem RcAt.list_dict {l b : Addr} {items : Array Value} (hl : DictOb s.heap l) (hb : s.heap.IsList b items) (hu : A.units < cLine) : RcAt A s (.ref b) (.ref l) false := fun prog w E Q h => by
  have hne := ne_dict_list hl hb
  obtain ⟨es, n, dd, sl, ho⟩ := hl
  obtain ⟨⟨cls2, dd2, data2, sl2⟩, ho2, hc2, n2, hd2⟩ := id hb
  simp only at hc2 hd2
  subst hc2 hd2
  exact rc_eq_decline_or (k := false) ⟨_, ho2, rfl⟩ ⟨_, ho, rfl⟩ (by decide) dsup_list F.slot_list_eq F.slot_dict_eq_refl
    (fun _ hq => call_meets F.slot_list_eq ⟨_, ho2, rfl⟩ F.entry_list_eq (F.args_list_eq_2 _ _) (list_no_dict l es n dd sl b items n2 dd2 sl2) ⟨ho, ho2, hq⟩)
    (fun _ hq => call_meets F.slot_dict_eq_refl ⟨_, ho, rfl⟩ F.entry_dict_eq (F.args_dict_eq_2 _ _) (dict_no_list l es n dd sl b items n2 dd2 sl2) ⟨ho, ho2, hq⟩)
    (fun _ hq => wpAny_isSame_ref_other' hne.symm ho2 ho (by simp) hq) (.inr hu) h
theorem EqAt.dict_list {l b : Addr} {items : Array Value} (hl : DictOb s.heap l) (hb : s.heap.IsList b items) (hu : A.units < cLine) : EqAt A s (.ref l) (.ref b) false := .of_refs (ne_dict_list hl hb) (.dict_list hl hb hu)
theorem EqAt.list_dict {l b : Addr} {items : Array Value} (hl : DictOb s.heap l) (hb : s.heap.IsList b items) (hu : A.units < cLine) : EqAt A s (.ref b) (.ref l) false := .of_refs (ne_dict_list hl hb).symm (.list_dict hl hb hu)
theorem ne_dict_tuple {l b : Addr} {items : Array Value} (hl : DictOb s.heap l) (hb : s.heap.IsTuple b items) : l ≠ b := fun e => by
  subst e
  obtain ⟨es, n, dd, sl, ho⟩ := hl
  obtain ⟨o2, ho2, hc2, _⟩ := hb
  rw [ho] at ho2
  cases ho2
  exact absurd hc2 (by simp)
theorem RcAt.dict_tuple {l b : Addr} {items : Array Value} (hl : DictOb s.heap l) (hb : s.heap.IsTuple b items) (hu : A.units < cLine) : RcAt A s (.ref l) (.ref b) false := fun prog w E Q h => by
  have hne := ne_dict_tuple hl hb
  obtain ⟨es, n, dd, sl, ho⟩ := hl
  obtain ⟨⟨cls2, dd2, data2, sl2⟩, ho2, hc2, n2, hd2⟩ := id hb
  simp only at hc2 hd2
  subst hc2 hd2
  exact rc_eq_decline_or (k := false) ⟨_, ho, rfl⟩ ⟨_, ho2, rfl⟩ (by decide) dsub_tuple F.slot_dict_eq F.slot_tuple_eq_refl
    (fun _ hq => call_meets F.slot_dict_eq ⟨_, ho, rfl⟩ F.entry_dict_eq (F.args_dict_eq_2 _ _) (dict_no_tuple l es n dd sl b items n2 dd2 sl2) ⟨ho, ho2, hq⟩)
    (fun _ hq => call_meets F.slot_tuple_eq_refl ⟨_, ho2, rfl⟩ F.entry_tuple_eq (F.args_tuple_eq_2 _ _) (tuple_no_dict l es n dd sl b items n2 dd2 sl2) ⟨ho, ho2, hq⟩)
    (fun _ hq => wpAny_isSame_ref_other hne ho ho2 (by simp) hq) (.inr hu) h
theorem RcAt.tuple_dict {l b : Addr} {items : Array Value} (hl : DictOb s.heap l) (hb : s.heap.IsTuple b items) (hu : A.units < cLine) : RcAt A s (.ref b) (.ref l) false := fun prog w E Q h => by
  have hne := ne_dict_tuple hl hb
  obtain ⟨es, n, dd, sl, ho⟩ := hl
  obtain ⟨⟨cls2, dd2, data2, sl2⟩, ho2, hc2, n2, hd2⟩ := id hb
  simp only at hc2 hd2
  subst hc2 hd2
  exact rc_eq_decline_or (k := false) ⟨_, ho2, rfl⟩ ⟨_, ho, rfl⟩ (by decide) dsup_tuple F.slot_tuple_eq F.slot_dict_eq_refl
    (fun _ hq => call_meets F.slot_tuple_eq ⟨_, ho2, rfl⟩ F.entry_tuple_eq (F.args_tuple_eq_2 _ _) (tuple_no_dict l es n dd sl b items n2 dd2 sl2) ⟨ho, ho2, hq⟩)
    (fun _ hq => call_meets F.slot_dict_eq_refl ⟨_, ho, rfl⟩ F.entry_dict_eq (F.args_dict_eq_2 _ _) (dict_no_tuple l es n dd sl b items n2 dd2 sl2) ⟨ho, ho2, hq⟩)
    (fun _ hq => wpAny_isSame_ref_other' hne.symm ho2 ho (by simp) hq) (.inr hu) h
theorem EqAt.dict_tuple {l b : Addr} {items : Array Value} (hl : DictOb s.heap l) (hb : s.heap.IsTuple b items) (hu : A.units < cLine) : EqAt A s (.ref l) (.ref b) false := .of_refs (ne_dict_tuple hl hb) (.dict_tuple hl hb hu)
theorem EqAt.tuple_dict {l b : Addr} {items : Array Value} (hl : DictOb s.heap l) (hb : s.heap.IsTuple b items) (hu : A.units < cLine) : EqAt A s (.ref b) (.ref l) false := .of_refs (ne_dict_tuple hl hb).symm (.tuple_dict hl hb hu)
end
end SeqAt
end PySem
namespace PySem
namespace SeqAt
open PySem
mutual
def dfree : PyData → Bool
  | .dict _ => false
  | .list xs => dfreeAll xs
  | .tuple xs => dfreeAll xs
  | _ => true
def dfreeAll : List PyData → Bool
  | [] => true
  | x :: xs => dfree x && dfreeAll xs
end
theorem DictOb.of {h : Heap} {l : Addr} {o : Obj} {es : Array DictEntry} {n : Nat} (h1 : h.get? l = some o) (h2 : o.cls = .type "dict") (h3 : o.data = .dict es n) : DictOb h l := by
  obtain ⟨c, d, dt, sl⟩ := o
  simp only at h2 h3
  subst h2 h3
  exact ⟨es, n, d, sl, h1⟩
mutual
theorem eqv_self : ∀ d : PyData, dfree d = true → PyData.eqv d d = true
  | .none, _ => rfl
  | .bool b, _ => by simp [PyData.eqv]
  | .int i, _ => by simp [PyData.eqv]
  | .str x, _ => by simp [PyData.eqv]
  | .list xs, h => by rw [PyData.eqv]; exact eqvAll_self xs h
  | .tuple xs, h => by rw [PyData.eqv]; exact eqvAll_self xs h
  | .dict _, h => by cases h
theorem eqvAll_self : ∀ xs : List PyData, dfreeAll xs = true → PyData.eqvAll xs xs = true
  | [], _ => rfl
  | x :: xs, h => by
    have h' : dfree x = true ∧ dfreeAll xs = true := by simpa [dfreeAll] using h
    rw [PyData.eqvAll, eqv_self x h'.1, eqvAll_self xs h'.2]; rfl
end
section
variable {h : Heap}
mutual
/-- one value is one datum, if one of the two is free of dicts -/
theorem reads_one : ∀ (d e : PyData) (v : Value) (as bs : List Addr), (dfree d = true ∨ dfree e = true) → Reads h v d as → Reads h v e bs → d = e
  | .none, _, _, _, _, _, ra, rb => by cases ra; cases rb; rfl
  | .bool _, _, _, _, _, _, ra, rb => by cases ra; cases rb; rfl
  | .int _, _, _, _, _, _, ra, rb => by cases ra; cases rb; rfl
  | .str _, _, _, _, _, _, ra, rb => by cases ra; cases rb; rfl
  | .list xs, _, _, _, _, f, ra, rb => by
    cases ra with
    | list h1 h2 h3 h4 =>
      cases rb with
      | list k1 k2 k3 k4 =>
        rw [h1] at k1; cases k1
        rw [h3] at k3; cases k3
        exact congrArg PyData.list (readsAll_one xs _ _ _ _ f h4 k4)
      | tuple k1 k2 k3 k4 => rw [h1] at k1; cases k1; rw [h2] at k2; simp at k2
      | dict k1 k2 k3 _ _ => rw [h1] at k1; cases k1; rw [h2] at k2; simp at k2
  | .tuple xs, _, _, _, _, f, ra, rb => by
    cases ra with
    | tuple h1 h2 h3 h4 =>
      cases rb with
      | tuple k1 k2 k3 k4 =>
        rw [h1] at k1; cases k1
        rw [h3] at k3; cases k3
        exact congrArg PyData.tuple (readsAll_one xs _ _ _ _ f h4 k4)
      | list k1 k2 k3 k4 => rw [h1] at k1; cases k1; rw [h2] at k2; simp at k2
      | dict k1 k2 k3 _ _ => rw [h1] at k1; cases k1; rw [h2] at k2; simp at k2
  | .dict kvs, _, _, _, _, f, ra, rb => by
    cases ra with
    | dict h1 h2 h3 h4 h5 =>
      cases rb with
      | tuple k1 k2 k3 k4 => rw [h1] at k1; cases k1; rw [h2] at k2; simp at k2
      | list k1 k2 k3 k4 => rw [h1] at k1; cases k1; rw [h2] at k2; simp at k2
      | dict k1 k2 k3 _ _ => rcases f with f | f <;> cases f
theorem readsAll_one : ∀ (xs ys : List PyData) (vs : List Value) (as bs : List Addr), (dfreeAll xs = true ∨ dfreeAll ys = true) → ReadsAll h vs xs as → ReadsAll h vs ys bs → xs = ys
  | [], _, _, _, _, _, ra, rb => by cases ra; cases rb; rfl
  | x :: xs, _, _, _, _, f, ra, rb => by
    cases ra with
    | cons r rs =>
      cases rb with
      | @cons _ _ y ys _ _ r' rs' =>
        have f1 : dfree x = true ∨ dfree y = true := f.imp (fun z => (Bool.and_eq_true_iff.mp z).1) fun z => (Bool.and_eq_true_iff.mp z).1
        have f2 : dfreeAll xs = true ∨ dfreeAll ys = true := f.imp (fun z => (Bool.and_eq_true_iff.mp z).2) fun z => (Bool.and_eq_true_iff.mp z).2
        rw [reads_one x _ _ _ _ f1 r r', readsAll_one xs _ _ _ _ f2 rs rs']
end
end
section
/-- two lists, two tuples, two dicts -/
def kin : PyData → PyData → Bool
  | .list _, .list _ => true
  | .tuple _, .tuple _ => true
  | .dict _, .dict _ => true
  | _, _ => false
theorem at_list {h : Heap} {a : Addr} {o : Obj} {vs : Array Value} {n : Nat} (e1 : h.get? a = some o) (e2 : o.cls = .type "list") (e3 : o.data = .seq vs n) : h.IsList a vs := ⟨_, e1, e2, _, e3⟩
theorem at_tuple {h : Heap} {a : Addr} {o : Obj} {vs : Array Value} {n : Nat} (e1 : h.get? a = some o) (e2 : o.cls = .type "tuple") (e3 : o.data = .seq vs n) : h.IsTuple a vs := ⟨_, e1, e2, _, e3⟩
variable {A : Around} {s : Shared} {v u : Value} {d e : PyData} {as bs : List Addr} {xs ys : List PyData}
theorem eqFlat (k : kin d e = false) (ra : Reads s.heap v d as) (rb : Reads s.heap u e bs) (lt : A.units < cLine) : EqAt A s v u (PyData.eqv d e) ∧ RcAt A s v u (PyData.eqv d e) := by
  cases ra with
  | none => cases rb with
    | none => exact ⟨EqAt.same _, RcAt.none_none⟩
    | bool q1 => exact ⟨EqAt.none_bool q1, RcAt.none_bool q1⟩
    | int q1 q2 => exact ⟨EqAt.none_int q1 q2, RcAt.none_int q1 q2⟩
    | str q1 q2 => exact ⟨EqAt.none_str q1 q2, RcAt.none_str q1 q2⟩
    | list q1 q2 q3 _ => exact ⟨EqAt.none_list (at_list q1 q2 q3) lt, RcAt.none_list (at_list q1 q2 q3) lt⟩
    | tuple q1 q2 q3 _ => exact ⟨EqAt.none_tuple (at_tuple q1 q2 q3) lt, RcAt.none_tuple (at_tuple q1 q2 q3) lt⟩
    | dict q1 q2 q3 _ _ => exact ⟨EqAt.none_dict (DictOb.of q1 q2 q3) lt, RcAt.none_dict (DictOb.of q1 q2 q3) lt⟩
  | bool p1 => cases rb with
    | none => exact ⟨EqAt.bool_none p1, RcAt.bool_none p1⟩
    | bool q1 => exact ⟨EqAt.bool_bool p1 q1, RcAt.bool_bool p1 q1⟩
    | int q1 q2 => exact ⟨EqAt.bool_int p1 q1 q2, RcAt.bool_int p1 q1 q2⟩
    | str q1 q2 => exact ⟨EqAt.bool_str p1 q1 q2, RcAt.bool_str p1 q1 q2⟩
    | list q1 q2 q3 _ => exact ⟨EqAt.bool_list p1 (at_list q1 q2 q3) lt, RcAt.bool_list p1 (at_list q1 q2 q3) lt⟩
    | tuple q1 q2 q3 _ => exact ⟨EqAt.bool_tuple p1 (at_tuple q1 q2 q3) lt, RcAt.bool_tuple p1 (at_tuple q1 q2 q3) lt⟩
    | dict q1 q2 q3 _ _ => exact ⟨EqAt.bool_dict p1 (DictOb.of q1 q2 q3) lt, RcAt.bool_dict p1 (DictOb.of q1 q2 q3) lt⟩
  | int p1 p2 => cases rb with
    | none => exact ⟨EqAt.int_none p1 p2, RcAt.int_none p1 p2⟩
    | bool q1 => exact ⟨EqAt.int_bool p1 p2 q1, RcAt.int_bool p1 p2 q1⟩
    | int q1 q2 => exact ⟨EqAt.int_int p1 p2 q1 q2, RcAt.int_int p1 p2 q1 q2⟩
    | str q1 q2 => exact ⟨EqAt.int_str p1 p2 q1 q2, RcAt.int_str p1 p2 q1 q2⟩
    | list q1 q2 q3 _ => exact ⟨EqAt.int_list p1 p2 (at_list q1 q2 q3) lt, RcAt.int_list p1 p2 (at_list q1 q2 q3) lt⟩
    | tuple q1 q2 q3 _ => exact ⟨EqAt.int_tuple p1 p2 (at_tuple q1 q2 q3) lt, RcAt.int_tuple p1 p2 (at_tuple q1 q2 q3) lt⟩
    | dict q1 q2 q3 _ _ => exact ⟨EqAt.int_dict p1 p2 (DictOb.of q1 q2 q3) lt, RcAt.int_dict p1 p2 (DictOb.of q1 q2 q3) lt⟩
  | str p1 p2 => cases rb with
    | none => exact ⟨EqAt.str_none p1 p2, RcAt.str_none p1 p2⟩
    | bool q1 => exact ⟨EqAt.str_bool p1 p2 q1, RcAt.str_bool p1 p2 q1⟩
    | int q1 q2 => exact ⟨EqAt.str_int p1 p2 q1 q2, RcAt.str_int p1 p2 q1 q2⟩
    | str q1 q2 => exact ⟨EqAt.str_str p1 p2 q1 q2, RcAt.str_str p1 p2 q1 q2⟩
    | list q1 q2 q3 _ => exact ⟨EqAt.str_list p1 p2 (at_list q1 q2 q3) lt, RcAt.str_list p1 p2 (at_list q1 q2 q3) lt⟩
    | tuple q1 q2 q3 _ => exact ⟨EqAt.str_tuple p1 p2 (at_tuple q1 q2 q3) lt, RcAt.str_tuple p1 p2 (at_tuple q1 q2 q3) lt⟩
    | dict q1 q2 q3 _ _ => exact ⟨EqAt.str_dict p1 p2 (DictOb.of q1 q2 q3) lt, RcAt.str_dict p1 p2 (DictOb.of q1 q2 q3) lt⟩
  | list p1 p2 p3 _ => cases rb with
    | none => exact ⟨EqAt.list_none (at_list p1 p2 p3) lt, RcAt.list_none (at_list p1 p2 p3) lt⟩
    | bool q1 => exact ⟨EqAt.list_bool q1 (at_list p1 p2 p3) lt, RcAt.list_bool q1 (at_list p1 p2 p3) lt⟩
    | int q1 q2 => exact ⟨EqAt.list_int q1 q2 (at_list p1 p2 p3) lt, RcAt.list_int q1 q2 (at_list p1 p2 p3) lt⟩
    | str q1 q2 => exact ⟨EqAt.list_str q1 q2 (at_list p1 p2 p3) lt, RcAt.list_str q1 q2 (at_list p1 p2 p3) lt⟩
    | list q1 q2 q3 _ => cases k
    | tuple q1 q2 q3 _ => exact ⟨EqAt.list_tuple (at_list p1 p2 p3) (at_tuple q1 q2 q3) lt, RcAt.list_tuple (at_list p1 p2 p3) (at_tuple q1 q2 q3) lt⟩
    | dict q1 q2 q3 _ _ => exact ⟨EqAt.list_dict (DictOb.of q1 q2 q3) (at_list p1 p2 p3) lt, RcAt.list_dict (DictOb.of q1 q2 q3) (at_list p1 p2 p3) lt⟩
  | tuple p1 p2 p3 _ => cases rb with
    | none => exact ⟨EqAt.tuple_none (at_tuple p1 p2 p3) lt, RcAt.tuple_none (at_tuple p1 p2 p3) lt⟩
    | bool q1 => exact ⟨EqAt.tuple_bool q1 (at_tuple p1 p2 p3) lt, RcAt.tuple_bool q1 (at_tuple p1 p2 p3) lt⟩
    | int q1 q2 => exact ⟨EqAt.tuple_int q1 q2 (at_tuple p1 p2 p3) lt, RcAt.tuple_int q1 q2 (at_tuple p1 p2 p3) lt⟩
    | str q1 q2 => exact ⟨EqAt.tuple_str q1 q2 (at_tuple p1 p2 p3) lt, RcAt.tuple_str q1 q2 (at_tuple p1 p2 p3) lt⟩
    | list q1 q2 q3 _ => exact ⟨EqAt.tuple_list (at_tuple p1 p2 p3) (at_list q1 q2 q3) lt, RcAt.tuple_list (at_tuple p1 p2 p3) (at_list q1 q2 q3) lt⟩
    | tuple q1 q2 q3 _ => cases k
    | dict q1 q2 q3 _ _ => exact ⟨EqAt.tuple_dict (DictOb.of q1 q2 q3) (at_tuple p1 p2 p3) lt, RcAt.tuple_dict (DictOb.of q1 q2 q3) (at_tuple p1 p2 p3) lt⟩
  | dict p1 p2 p3 _ _ => cases rb with
    | none => exact ⟨EqAt.dict_none (DictOb.of p1 p2 p3) lt, RcAt.dict_none (DictOb.of p1 p2 p3) lt⟩
    | bool q1 => exact ⟨EqAt.dict_bool q1 (DictOb.of p1 p2 p3) lt, RcAt.dict_bool q1 (DictOb.of p1 p2 p3) lt⟩
    | int q1 q2 => exact ⟨EqAt.dict_int q1 q2 (DictOb.of p1 p2 p3) lt, RcAt.dict_int q1 q2 (DictOb.of p1 p2 p3) lt⟩
    | str q1 q2 => exact ⟨EqAt.dict_str q1 q2 (DictOb.of p1 p2 p3) lt, RcAt.dict_str q1 q2 (DictOb.of p1 p2 p3) lt⟩
    | list q1 q2 q3 _ => exact ⟨EqAt.dict_list (DictOb.of p1 p2 p3) (at_list q1 q2 q3) lt, RcAt.dict_list (DictOb.of p1 p2 p3) (at_list q1 q2 q3) lt⟩
    | tuple q1 q2 q3 _ => exact ⟨EqAt.dict_tuple (DictOb.of p1 p2 p3) (at_tuple q1 q2 q3) lt, RcAt.dict_tuple (DictOb.of p1 p2 p3) (at_tuple q1 q2 q3) lt⟩
    | dict q1 q2 q3 _ _ => cases k
/-- the items, pair by pair -/
abbrev Each (A : Around) (s : Shared) (xs ys : List PyData) : Prop := ∀ (vs us : List Value) (as bs : List Addr), ReadsAll s.heap vs xs as → ReadsAll s.heap us ys bs → ∀ (j : Nat) (h1 : j < vs.length) (h2 : j < us.length), EqAt A.in1 s vs[j] us[j] (pairEq xs ys j)
theorem sizes {h : Heap} {vs : Array Value} {xs : List PyData} {as : List Addr} (r : ReadsAll h vs.toList xs as) : vs.size = xs.length := by
  have z := ReadsAll.length _ _ _ r
  rwa [Array.length_toList] at z
theorem listRc (ra : Reads s.heap v (.list xs) as) (rb : Reads s.heap u (.list ys) bs) (lt : A.units < cLine) (each : Each A s xs ys) : RcAt A s v u (PyData.eqvAll xs ys) := by
  cases ra with
  | list a1 a2 a3 a4 =>
    cases rb with
    | list b1 b2 b3 b4 =>
      have z1 := sizes a4
      have z2 := sizes b4
      by_cases same : xs.length = ys.length
      · rw [← eqvAll_same_length same, ← z1]
        exact RcAt.lists (at_list a1 a2 a3) (at_list b1 b2 b3) (by omega) lt fun j j1 j2 => by
          have q := each _ _ _ _ a4 b4 j (by simpa using j1) (by simpa using j2)
          simpa using q
      · rw [eqvAll_other_length same]
        exact RcAt.lists_lengths (at_list a1 a2 a3) (at_list b1 b2 b3) (by simp; omega) lt
theorem tupRc (ra : Reads s.heap v (.tuple xs) as) (rb : Reads s.heap u (.tuple ys) bs) (lt : A.units < cLine) (each : Each A s xs ys) : RcAt A s v u (PyData.eqvAll xs ys) := by
  cases ra with
  | tuple a1 a2 a3 a4 =>
    cases rb with
    | tuple b1 b2 b3 b4 =>
      rw [← eqvAll_eq, ← sizes a4, ← sizes b4]
      exact RcAt.tuples (at_tuple a1 a2 a3) (at_tuple b1 b2 b3) lt fun j j1 j2 => by
        have q := each _ _ _ _ a4 b4 j (by simpa using j1) (by simpa using j2)
        simpa using q
/-- from the comparison to the test that looks at the address first -/
theorem rcEq (f : dfree d = true ∨ dfree e = true) (ra : Reads s.heap v d as) (rb : Reads s.heap u e bs) (h : ∃ a, v = .ref a) (k : ∃ a, u = .ref a) (rc : RcAt A s v u (PyData.eqv d e)) : EqAt A s v u (PyData.eqv d e) := by
  obtain ⟨a, rfl⟩ := h
  obtain ⟨b, rfl⟩ := k
  by_cases ab : a = b
  · subst ab
    obtain rfl := reads_one d e _ _ _ f ra rb
    rw [eqv_self d (f.elim id id)]
    exact EqAt.same _
  · exact EqAt.of_refs ab rc
theorem ref_list {h : Heap} (r : Reads h v (.list xs) as) : ∃ a, v = .ref a := by cases r; exact ⟨_, rfl⟩
theorem ref_tuple {h : Heap} (r : Reads h v (.tuple xs) as) : ∃ a, v = .ref a := by cases r; exact ⟨_, rfl⟩
end
mutual
theorem eqMix : ∀ (d e : PyData) (A : Around) (s : Shared) (v u : Value) (as bs : List Addr), (dfree d = true ∨ dfree e = true) → Reads s.heap v d as → Reads s.heap u e bs → A.units + min d.depth e.depth < cLine → EqAt A s v u (PyData.eqv d e)
  | .list xs, e, A, s, v, u, _, _, f, ra, rb, hu => by
    cases e with
    | list ys => exact rcEq f ra rb (ref_list ra) (ref_list rb) (listRc ra rb (room_here hu) fun vs us as bs q1 q2 => eqMixAll xs ys A.in1 s vs us as bs f q1 q2 (room_in hu))
    | _ => exact (eqFlat rfl ra rb (room_here hu)).1
  | .tuple xs, e, A, s, v, u, _, _, f, ra, rb, hu => by
    cases e with
    | tuple ys => exact rcEq f ra rb (ref_tuple ra) (ref_tuple rb) (tupRc ra rb (room_here hu) fun vs us as bs q1 q2 => eqMixAll xs ys A.in1 s vs us as bs f q1 q2 (room_in hu))
    | _ => exact (eqFlat rfl ra rb (room_here hu)).1
  | .dict kvs, e, A, s, v, u, _, _, f, ra, rb, hu => by
    cases e with
    | dict _ => rcases f with f | f <;> cases f
    | _ => exact (eqFlat rfl ra rb (room_here hu)).1
  | .none, e, _, _, _, _, _, _, _, ra, rb, hu => (eqFlat (by cases e <;> rfl) ra rb (room_here hu)).1
  | .bool _, e, _, _, _, _, _, _, _, ra, rb, hu => (eqFlat (by cases e <;> rfl) ra rb (room_here hu)).1
  | .int _, e, _, _, _, _, _, _, _, ra, rb, hu => (eqFlat (by cases e <;> rfl) ra rb (room_here hu)).1
  | .str _, e, _, _, _, _, _, _, _, ra, rb, hu => (eqFlat (by cases e <;> rfl) ra rb (room_here hu)).1
theorem eqMixAll : ∀ (xs ys : List PyData) (A : Around) (s : Shared) (vs us : List Value) (as bs : List Addr), (dfreeAll xs = true ∨ dfreeAll ys = true) → ReadsAll s.heap vs xs as → ReadsAll s.heap us ys bs →
    A.units + min (PyData.depthAll xs) (PyData.depthAll ys) < cLine → ∀ (j : Nat) (h1 : j < vs.length) (h2 : j < us.length), EqAt A s vs[j] us[j] (pairEq xs ys j)
  | [], _, _, _, _, _, _, _, _, .nil, _, _, _, h1, _ => nomatch h1
  | _ :: _, [], _, _, _, _, _, _, _, _, .nil, _, _, _, h2 => nomatch h2
  | x :: xs, y :: ys, A, s, _, _, _, _, f, .cons r rs, .cons r' rs', hu, j, h1, h2 => by
    have both : (dfree x = true ∨ dfree y = true) ∧ (dfreeAll xs = true ∨ dfreeAll ys = true) := by
      rcases f with z | z <;> obtain ⟨z1, z2⟩ := Bool.and_eq_true_iff.mp z
      · exact ⟨.inl z1, .inl z2⟩
      · exact ⟨.inr z1, .inr z2⟩
    match j with
    | 0 => exact eqMix x y A s _ _ _ _ both.1 r r' (room_head hu)
    | j + 1 => exact eqMixAll xs ys A s _ _ _ _ both.2 rs rs' (room_tail hu) j (Nat.lt_of_succ_lt_succ h1) (Nat.lt_of_succ_lt_succ h2)
end
theorem rcMix {d e : PyData} {A : Around} {s : Shared} {v u : Value} {as bs : List Addr} (f : dfree d = true ∨ dfree e = true) (ra : Reads s.heap v d as) (rb : Reads s.heap u e bs) (hu : A.units + min d.depth e.depth < cLine) : RcAt A s v u (PyData.eqv d e) := by
  cases k : kin d e with
  | false => exact (eqFlat k ra rb (room_here hu)).2
  | true =>
    cases d <;> cases e <;> first
      | (cases k; done)
      | exact listRc ra rb (room_here hu) fun vs us as bs q1 q2 => eqMixAll _ _ A.in1 s vs us as bs f q1 q2 (room_in hu)
      | exact tupRc ra rb (room_here hu) fun vs us as bs q1 q2 => eqMixAll _ _ A.in1 s vs us as bs f q1 q2 (room_in hu)
      | (rcases f with f | f <;> cases f)
/-- the datum that a value reads as -/
noncomputable def datOf (h : Heap) (v : Value) : PyData := open Classical in if e : ∃ d as, Reads h v d as then e.choose else .none
theorem datOf_eq {h : Heap} {v : Value} {d : PyData} {as : List Addr} (r : Reads h v d as) : datOf h v = d := by
  have e : ∃ d as, Reads h v d as := ⟨d, as, r⟩
  unfold datOf
  rw [dif_pos e]
  obtain ⟨bs, r2⟩ := e.choose_spec
  exact (r2.unique _ _ r).1
theorem datAll_eq {h : Heap} : ∀ {xs : List PyData} {vs : List Value} {as : List Addr}, ReadsAll h vs xs as → vs.map (datOf h) = xs
  | _, _, _, .nil => rfl
  | _, _, _, .cons r t => by rw [List.map_cons, datOf_eq r, datAll_eq t]
theorem reads_mem {h : Heap} : ∀ {xs : List PyData} {vs : List Value} {as : List Addr}, ReadsAll h vs xs as → ∀ y ∈ vs, ∃ d bs, d ∈ xs ∧ Reads h y d bs ∧ d.depth ≤ PyData.depthAll xs
  | _, _, _, .nil, y, hy => by cases hy
  | _, _, _, .cons (d := d) r t, y, hy => by
    rcases List.mem_cons.mp hy with rfl | hy
    · exact ⟨d, _, List.mem_cons_self .., r, Nat.le_max_left _ _⟩
    · obtain ⟨e, bs, h1, h2, h3⟩ := reads_mem t y hy
      exact ⟨e, bs, List.mem_cons_of_mem _ h1, h2, Nat.le_trans h3 (Nat.le_max_right _ _)⟩
theorem dfreeAll_mem : ∀ {xs : List PyData} {d : PyData}, dfreeAll xs = true → d ∈ xs → dfree d = true
  | _ :: _, _, h, m => by
    obtain ⟨h1, h2⟩ := Bool.and_eq_true_iff.mp (show (dfree _ && dfreeAll _) = true from h)
    rcases List.mem_cons.mp m with rfl | m
    · exact h1
    · exact dfreeAll_mem h2 m
theorem items_mix {A : Around} {s : Shared} {vs : Array Value} {xs : List PyData} {as bs : List Addr} {x : Value} {d : PyData} (f : dfreeAll xs = true ∨ dfree d = true) (rs : ReadsAll s.heap vs.toList xs as) (rx : Reads s.heap x d bs)
    (hu : A.units + 1 + min (PyData.depthAll xs) d.depth < cLine) : ∀ y, y ∈ vs → EqAt A.in1 s y x (PyData.eqv (datOf s.heap y) d) := fun y hy => by
  obtain ⟨e, cs, m, ry, le⟩ := reads_mem rs y (by simpa using hy)
  rw [datOf_eq ry]
  refine eqMix e d A.in1 s y x _ _ (f.imp (fun z => dfreeAll_mem z m) id) ry rx ?_
  have : min e.depth d.depth ≤ min (PyData.depthAll xs) d.depth := Nat.le_min.mpr ⟨Nat.le_trans (Nat.min_le_left _ _) le, Nat.min_le_right _ _⟩
  show A.units + 1 + min e.depth d.depth < cLine
  omega
theorem any_dat {h : Heap} {vs : Array Value} {xs : List PyData} {as : List Addr} {d : PyData} (rs : ReadsAll h vs.toList xs as) : vs.any (fun y => PyData.eqv (datOf h y) d) = xs.any (fun y => PyData.eqv y d) := by
  rw [← Array.any_toList, ← datAll_eq rs, List.any_map]
  rfl
end SeqAt
end PySem
namespace Pu
open PySem PySem.Spec PyProof.Rows L2 SeqAt
section
variable {X : Cx} {pins : List (Addr × Obj)} {σ : L2.St} {F H : Hp} {s : Shared} {pn : Pn} {b : Nat}
theorem BV.reads (I : Inv X pins σ H s) (o : Ok pn b F H) {v : V} {d : PyData} {u : Value} (h : BV X.K pn F H v d) (r : RelV v u) : ∃ as, Reads s.heap u d as := by
  rcases h with h | ⟨xs, rfl, a, vs, rfl, _, _, _, ha, q⟩
  · obtain ⟨as, h, _⟩ := reads_of I o.sub h r
    exact ⟨as, h⟩
  · cases r
    obtain ⟨its, rv, pl, _⟩ := I.list (SqL.of (K := X.K) ha)
    obtain ⟨ob, ho, hc, n, hd⟩ := pl.isList
    obtain ⟨as, ra, _⟩ := readsAll_of I o.sub q rv
    exact ⟨_, .list ho hc hd (by simpa using ra)⟩
end
def rEq2 (K : PySem.W.Frag) : R2 := fun x y H Q => ∃ (pn : Pn) (b : Nat) (F : Hp) (d e : PyData), Ok pn b F H ∧ BV K pn F H x d ∧ BV K pn F H y e ∧ (dfree d = true ∨ dfree e = true) ∧ min d.depth e.depth ≤ 60 ∧ Q (.bl (PyData.eqv d e)) H
def pEq2 : P2 := fun x y P => (dfree x = true ∨ dfree y = true) ∧ min x.depth y.depth ≤ 60 ∧ P (.bool (PyData.eqv x y))
theorem op_eq2 {X : Cx} (hu : X.A.units + 64 < cLine) : OpR X (compareOp .Eq) (rEq2 X.K) := by
  intro pins s σ H x y v u Q I rx ry ⟨pn, b, F, d, e, o, bx, by', f, dp, q⟩
  obtain ⟨as, r1⟩ := bx.reads I o rx
  obtain ⟨bs, r2⟩ := by'.reads I o ry
  exact rcMix f r1 r2 (by omega) X.prog X.w _ _ ⟨.bl _, H, I, rfl, q⟩
theorem o_eq2 {K : PySem.W.Frag} : Op2 K (rEq2 K) pEq2 := by
  intro pn b F H v u x y P Q o bv bu ⟨f, dp, q⟩ k
  exact ⟨pn, b, F, x, y, o, bv, bu, f, dp, k _ _ F H o .refl (.bl _) q⟩
/-- the items of a list, a tuple -/
def itemsD : PyData → Option (List PyData)
  | .list xs => some xs
  | .tuple xs => some xs
  | _ => none
def rIn2 (K : PySem.W.Frag) (neg : Bool) : R2 := fun x y H Q => ∃ (pn : Pn) (b : Nat) (F : Hp) (d e : PyData) (ds : List PyData), Ok pn b F H ∧ BV K pn F H x d ∧ BV K pn F H y e ∧ itemsD e = some ds ∧ (dfreeAll ds = true ∨ dfree d = true) ∧ min (PyData.depthAll ds) d.depth ≤ 60 ∧ Q (.bl (neg ^^ (ds.any fun z => PyData.eqv z d))) H
def pIn2 (neg : Bool) : P2
  | .str s, .str t, P => P (.bool (neg ^^ !(Builtin.Str.occurrences t s 0 t.length 1).isEmpty))
  | x, y, P => ∃ ds, itemsD y = some ds ∧ (dfreeAll ds = true ∨ dfree x = true) ∧ min (PyData.depthAll ds) x.depth ≤ 60 ∧ P (.bool (neg ^^ (ds.any fun z => PyData.eqv z x)))
section
variable {X : Cx}
theorem op_in2 (hu : X.A.units + 64 < cLine) : OpR X (compareOp .In) (rIn2 X.K false) := by
  intro pins s σ H x y v u Q I rx ry ⟨pn, b, F, d, e, ds, o, bx, by', ei, f, dp, q⟩
  obtain ⟨as, r1⟩ := bx.reads I o rx
  obtain ⟨bs, r2⟩ := by'.reads I o ry
  rw [Bool.false_xor] at q
  cases r2 with
  | list k1 k2 k3 k4 =>
    cases ei
    exact in_listAt _ ⟨_, k1, k2, _, k3⟩ (items_mix f k4 r1 (by omega)) (by rw [any_dat k4]; exact ⟨.bl _, H, I, rfl, q⟩)
  | tuple k1 k2 k3 k4 =>
    cases ei
    exact in_tupleAt _ ⟨_, k1, k2, _, k3⟩ (items_mix f k4 r1 (by omega)) (by rw [any_dat k4]; exact ⟨.bl _, H, I, rfl, q⟩)
  | _ => cases ei
theorem op_ni2 (hu : X.A.units + 64 < cLine) : OpR X (compareOp .NotIn) (rIn2 X.K true) := by
  intro pins s σ H x y v u Q I rx ry ⟨pn, b, F, d, e, ds, o, bx, by', ei, f, dp, q⟩
  obtain ⟨as, r1⟩ := bx.reads I o rx
  obtain ⟨bs, r2⟩ := by'.reads I o ry
  rw [Bool.true_xor] at q
  cases r2 with
  | list k1 k2 k3 k4 =>
    cases ei
    exact notIn_listAt _ ⟨_, k1, k2, _, k3⟩ (items_mix f k4 r1 (by omega)) (by rw [any_dat k4]; exact ⟨.bl _, H, I, rfl, q⟩)
  | tuple k1 k2 k3 k4 =>
    cases ei
    exact notIn_tupleAt _ ⟨_, k1, k2, _, k3⟩ (items_mix f k4 r1 (by omega)) (by rw [any_dat k4]; exact ⟨.bl _, H, I, rfl, q⟩)
  | _ => cases ei
def rInB (K : PySem.W.Frag) : R2 := fun x y H Q => (∃ i j, x = .str i ∧ y = .str j ∧ Q (.bl (!(Builtin.Str.occurrences j i 0 j.length 1).isEmpty)) H) ∨ rIn2 K false x y H Q
def rNiB (K : PySem.W.Frag) : R2 := fun x y H Q => (∃ i j, x = .str i ∧ y = .str j ∧ Q (.bl (!(!(Builtin.Str.occurrences j i 0 j.length 1).isEmpty))) H) ∨ rIn2 K true x y H Q
theorem opr_in2 (hu : X.A.units + 64 < cLine) : OpR X (compareOp .In) (rInB X.K) := OpR.or op_in_str (op_in2 hu)
theorem opr_ni2 (hu : X.A.units + 64 < cLine) : OpR X (compareOp .NotIn) (rNiB X.K) := OpR.or op_notIn_str (op_ni2 hu)
theorem pIn2_cases {neg : Bool} {x y : PyData} {P : PyData → Prop} (h : pIn2 neg x y P) : (∃ s t, x = .str s ∧ y = .str t ∧ P (.bool (neg ^^ !(Builtin.Str.occurrences t s 0 t.length 1).isEmpty))) ∨
    ∃ ds, itemsD y = some ds ∧ (dfreeAll ds = true ∨ dfree x = true) ∧ min (PyData.depthAll ds) x.depth ≤ 60 ∧ P (.bool (neg ^^ (ds.any fun z => PyData.eqv z x))) := by
  unfold pIn2 at h
  split at h
  · exact .inl ⟨_, _, rfl, rfl, h⟩
  · exact .inr h
theorem o_in2 {K : PySem.W.Frag} : Op2 K (rInB K) (pIn2 false) := by
  intro pn b F H v u x y P Q o bv bu q k
  rcases pIn2_cases q with ⟨s, t, rfl, rfl, q1⟩ | ⟨ds, e, f, dp, q1⟩
  · exact .inl ⟨s, t, bv.str, bu.str, k _ _ F H o .refl (.bl _) (by simpa using q1)⟩
  · exact .inr ⟨pn, b, F, x, y, ds, o, bv, bu, e, f, dp, k _ _ F H o .refl (.bl _) q1⟩
theorem o_ni2 {K : PySem.W.Frag} : Op2 K (rNiB K) (pIn2 true) := by
  intro pn b F H v u x y P Q o bv bu q k
  rcases pIn2_cases q with ⟨s, t, rfl, rfl, q1⟩ | ⟨ds, e, f, dp, q1⟩
  · exact .inl ⟨s, t, bv.str, bu.str, k _ _ F H o .refl (.bl _) (by simpa using q1)⟩
  · exact .inr ⟨pn, b, F, x, y, ds, o, bv, bu, e, f, dp, k _ _ F H o .refl (.bl _) q1⟩
end
end Pu
namespace Pu
open PySem PySem.Spec PyProof.Rows L2 SeqAt
abbrev VE := En → Option PyData
abbrev VT := En → Option Bool
abbrev VF := En → Option (List PyData)
abbrev VO := En → Option (Option Int)
abbrev HE (t : WE) (e : VE) : Prop := ∀ env b P r, e env = some r → P r b → t env b P
abbrev HT (t : WT) (e : VT) : Prop := ∀ env b P r, e env = some r → P r b → t env b P
abbrev H2 (p : P2) (e : PyData → PyData → Option PyData) : Prop := ∀ x y P r, e x y = some r → P r → p x y P
abbrev H1 (p : P1) (e : PyData → Option PyData) : Prop := ∀ x P r, e x = some r → P r → p x P
abbrev H1L (p : PyData → (List PyData → Prop) → Prop) (e : PyData → Option (List PyData)) : Prop := ∀ x P r, e x = some r → P r → p x P
abbrev H2L (p : PyData → PyData → (List PyData → Prop) → Prop) (e : PyData → PyData → Option (List PyData)) : Prop := ∀ x y P r, e x y = some r → P r → p x y P
theorem bnd {α β : Type} {o : Option α} {f : α → Option β} {r : β} (h : o.bind f = some r) : ∃ x, o = some x ∧ f x = some r := Option.bind_eq_some_iff.mp h
def vVar (i : Nat) : VE := fun env => match env[i]? with
  | some (some (.d x)) => some x
  | some (some (.l xs)) => some (.list xs)
  | some (some (.r xs)) => some (.list xs)
  | _ => none
def vVal (i : Nat) : VE := fun env => match env[i]? with
  | some (some (.d x)) => some x
  | _ => none
def v1 (p : PyData → Option PyData) (a : VE) : VE := fun env => (a env).bind p
section
variable {ta tb tc : WE} {ea eb ec : VE} {tt tu : WT} {et eu : VT} {tf : WF} {ef : VF}
theorem h_var {i : Nat} : HE (wVar i) (vVar i) := fun env b P r h k => by
  unfold vVar at h; unfold wVar
  split at h <;> first | (cases h; simp_all; done) | (simp_all)
theorem h_val {i : Nat} : HE (wVal i) (vVal i) := fun env b P r h k => by
  unfold vVal at h; unfold wVal
  split at h <;> first | (cases h; simp_all; done) | (simp_all)
def eTru : PyData → Option Bool
  | .none => some false
  | .bool c => some c
  | .int i => some (i != 0)
  | .str z => if z.length ≤ sizeLine then some ((z.length : Int) != 0) else none
  | .list xs => some (!xs.isEmpty)
  | .tuple xs => some (!xs.isEmpty)
  | _ => none
theorem tru_run {x : PyData} {k : Bool} {P : Bool → Prop} (h : eTru x = some k) (q : P k) : pTru x P := by
  cases x with
  | str z =>
    have h : (if z.length ≤ sizeLine then some ((z.length : Int) != 0) else none) = some k := h
    by_cases c : z.length ≤ sizeLine
    · rw [if_pos c] at h
      cases h
      exact ⟨c, q⟩
    · rw [if_neg c] at h
      cases h
  | dict _ => cases h
  | _ => cases h; exact q
end
end Pu
namespace Pu
open PySem PySem.Spec PyProof.Rows L2 SeqAt
end Pu
namespace Pu
open PySem PySem.Spec PyProof.Rows L2 SeqAt PuS
def eAdd : PyData → PyData → Option PyData
  | .int i, .int j => some (.int (i + j))
  | .str s, .str t => if s.length + t.length ≤ sizeLine then some (.str (s ++ t)) else none
  | .tuple xs, .tuple ys => if xs.length + ys.length ≤ sizeLine then some (.tuple (xs ++ ys)) else none
  | .list xs, .list ys => if xs.length + ys.length ≤ sizeLine then some (.list (xs ++ ys)) else none
  | _, _ => none
def eI (C : Int → Int → Bool) (g : Int → Int → PyData) : PyData → PyData → Option PyData
  | .int i, .int j => if C i j = true then some (g i j) else none
  | _, _ => none
def eEq : PyData → PyData → Option PyData := fun x y => if (dfree x || dfree y) && decide (min x.depth y.depth ≤ 60) then some (.bool (PyData.eqv x y)) else none
def eNe : PyData → PyData → Option PyData := fun x y => if SeqAt.shaped x && SeqAt.shaped y then some (.bool (!PyData.eqv x y)) else none
def eInL (neg : Bool) (x y : PyData) : Option PyData := (itemsD y).bind fun ds => if (dfreeAll ds || dfree x) && decide (min (PyData.depthAll ds) x.depth ≤ 60) then some (.bool (neg ^^ (ds.any fun z => PyData.eqv z x))) else none
def eIn (neg : Bool) : PyData → PyData → Option PyData
  | .str s, .str t => some (.bool (neg ^^ !(Builtin.Str.occurrences t s 0 t.length 1).isEmpty))
  | x, y => eInL neg x y
def eIs (neg : Bool) : PyData → PyData → Option PyData
  | x, .none => some (.bool (neg ^^ isNon x))
  | .bool i, .bool j => some (.bool (neg ^^ decide (i = j)))
  | _, _ => none
def eIx : PyData → PyData → Option PyData
  | .list xs, .int i => atI xs i
  | .tuple xs, .int i => atI xs i
  | .str z, .int i => if z.length ≤ sizeLine then (atI z.cps.toList i).map fun c => .str ⟨#[c]⟩ else none
  | _, _ => none
def eLen : PyData → Option PyData
  | .str z => if z.length ≤ sizeLine then some (.int z.length) else none
  | .list xs => some (.int xs.length)
  | .tuple xs => some (.int xs.length)
  | _ => none
def eInt : PyData → Option PyData
  | .int i => some (.int i)
  | .bool c => some (.int (if c then 1 else 0))
  | _ => none
def eAll : PyData → Option PyData
  | .list xs => (boolsOf xs).map fun bs => .bool (bs.all id)
  | _ => none
def eAny : PyData → Option PyData
  | .list xs => (boolsOf xs).map fun bs => .bool (bs.any id)
  | _ => none
def eIsi (Ts : List String) : PyData → Option PyData := fun d => some (.bool (Ts.any fun T => isiD T d))
def eListL : PyData → Option (List PyData)
  | .list xs => some xs
  | .tuple xs => some xs
  | _ => none
section
variable {C : Int → Int → Prop} {D : Int → Int → Bool} {g : Int → Int → PyData} {neg : Bool}
theorem ite_some {α : Type} {c : Prop} [Decidable c] {x r : α} (h : (if c then some x else none) = some r) : c ∧ x = r := by
  by_cases q : c
  · rw [if_pos q] at h; cases h; exact ⟨q, rfl⟩
  · rw [if_neg q] at h; cases h
theorem h2_add : H2 pAdd eAdd := fun x y P r q k => by
  cases x <;> cases y <;> first
    | (cases q; exact k)
    | (obtain ⟨c, e⟩ := ite_some q; subst e; exact ⟨c, k⟩)
    | cases q
theorem h2_i (hC : ∀ i j, D i j = true → C i j) : H2 (pI C g) (eI D g) := fun x y P r q k => by
  cases x <;> cases y <;> first
    | (obtain ⟨c, e⟩ := ite_some q; subst e; exact ⟨hC _ _ c, k⟩)
    | cases q
theorem h2_eq : H2 pEq2 eEq := fun x y P r q k => by
  obtain ⟨c, e⟩ := ite_some q
  subst e
  obtain ⟨c1, c2⟩ := Bool.and_eq_true_iff.mp c
  exact ⟨(Bool.or_eq_true _ _).mp c1, of_decide_eq_true c2, k⟩
theorem h2_ne : H2 pNe eNe := fun x y P r q k => by
  obtain ⟨c, e⟩ := ite_some q
  subst e
  obtain ⟨c1, c2⟩ := Bool.and_eq_true_iff.mp c
  exact ⟨c1, c2, k⟩
theorem inL_run {x y r : PyData} {P : PyData → Prop} (q : eInL neg x y = some r) (k : P r) : ∃ ds, itemsD y = some ds ∧ (dfreeAll ds = true ∨ dfree x = true) ∧ min (PyData.depthAll ds) x.depth ≤ 60 ∧ P (.bool (neg ^^ (ds.any fun z => PyData.eqv z x))) := by
  obtain ⟨ds, h1, q⟩ := bnd q
  obtain ⟨c, e⟩ := ite_some q
  subst e
  obtain ⟨c1, c2⟩ := Bool.and_eq_true_iff.mp c
  exact ⟨ds, h1, (Bool.or_eq_true _ _).mp c1, of_decide_eq_true c2, k⟩
theorem h2_in : H2 (pIn2 neg) (eIn neg) := fun x y P r q k => by
  cases x with
  | str s => cases y with
    | str t => cases q; exact k
    | _ => exact inL_run q k
  | _ => exact inL_run (y := y) (by cases y <;> exact q) k
theorem h2_is : H2 (pIs neg) (eIs neg) := fun x y P r q k => by
  cases x <;> cases y <;> first | (cases q; exact k) | cases q
theorem h2_ix : H2 pIx eIx := fun x y P r q k => by
  cases x with
  | list xs => cases y with
    | int i => show (match atI xs i with | some v => P v | none => False); rw [show atI xs i = some r from q]; exact k
    | _ => cases q
  | tuple xs => cases y with
    | int i => show (match atI xs i with | some v => P v | none => False); rw [show atI xs i = some r from q]; exact k
    | _ => cases q
  | str z => cases y with
    | int i =>
      have q : (if z.length ≤ sizeLine then (atI z.cps.toList i).map fun c => PyData.str ⟨#[c]⟩ else none) = some r := q
      by_cases c : z.length ≤ sizeLine
      · rw [if_pos c] at q
        obtain ⟨a, h1, h2⟩ := Option.map_eq_some_iff.mp q
        subst h2
        refine ⟨c, ?_⟩
        rw [h1]
        exact k
      · rw [if_neg c] at q; cases q
    | _ => cases q
  | _ => cases y <;> cases q
theorem h1_len : H1 pLen eLen := fun x P r q k => by
  cases x <;> first
    | (cases q; exact k)
    | (obtain ⟨c, e⟩ := ite_some q; subst e; exact ⟨c, k⟩)
    | cases q
theorem h1_int : H1 pInt eInt := fun x P r q k => by cases x <;> first | (cases q; exact k) | cases q
theorem h1_all : H1 pAll eAll := fun x P r q k => by
  cases x with
  | list xs =>
    obtain ⟨bs, h1, h2⟩ := Option.map_eq_some_iff.mp q
    subst h2
    show (match boolsOf xs with | some bs => P (.bool (bs.all id)) | none => False)
    rw [h1]
    exact k
  | _ => cases q
theorem h1_any : H1 pAny eAny := fun x P r q k => by
  cases x with
  | list xs =>
    obtain ⟨bs, h1, h2⟩ := Option.map_eq_some_iff.mp q
    subst h2
    show (match boolsOf xs with | some bs => P (.bool (bs.any id)) | none => False)
    rw [h1]
    exact k
  | _ => cases q
theorem h1_isi {Ts : List String} : H1 (pIsi Ts) (eIsi Ts) := fun x P r q k => by cases q; exact k
theorem h1_listL : H1L pListL eListL := fun x P r q k => by cases x <;> first | (cases q; exact k) | cases q
end
end Pu
namespace Pu
open PySem PySem.Spec PyProof.Rows L2 SeqAt PuS
/-- a product's factors fit -/
def mulB (i j : Int) : Bool := (decide (-(2 ^ 64) < i) && decide (i < 2 ^ 64)) || (decide (-(2 ^ 64) < j) && decide (j < 2 ^ 64))
def eMul : PyData → PyData → Option PyData
  | .int i, .int j => if mulB i j = true then some (.int (i * j)) else none
  | .list xs, .int k => if -(2 ^ 63) ≤ k ∧ k < 2 ^ 63 ∧ xs.length * k.toNat ≤ sizeLine then some (.list (List.replicate k.toNat xs).flatten) else none
  | _, _ => none
def eCatL : PyData → PyData → Option (List PyData)
  | .list xs, .list ys => if xs.length + ys.length ≤ sizeLine then some (xs ++ ys) else none
  | _, _ => none
def eRepL : PyData → PyData → Option (List PyData)
  | .list xs, .int k => if -(2 ^ 63) ≤ k ∧ k < 2 ^ 63 ∧ xs.length * k.toNat ≤ sizeLine then some (List.replicate k.toNat xs).flatten else none
  | _, _ => none
/-- keys of a datum, as a function -/
def keyD : PyData → Option Key
  | .int i => some (.inl i)
  | .str z => some (.inr z)
  | _ => none
def keysAll : List PyData → Option (List Key)
  | [] => some []
  | x :: xs => (keyD x).bind fun k => (keysAll xs).map fun ks => k :: ks
def keysF : PyData → Option (List Key)
  | .str z => some (ofStr z)
  | .list xs => keysAll xs
  | .tuple xs => keysAll xs
  | _ => none
theorem keyD_ok {x : PyData} {k : Key} (h : keyD x = some k) : x = kD k := by cases x <;> first | (cases h; rfl) | cases h
theorem keysAll_ok : ∀ {xs : List PyData} {ks : List Key}, keysAll xs = some ks → xs = ks.map kD
  | [], ks, h => by cases h; rfl
  | x :: xs, ks, h => by
    obtain ⟨k, h1, h⟩ := bnd h
    obtain ⟨r, h2, h⟩ := Option.map_eq_some_iff.mp h
    subst h
    rw [keyD_ok h1, keysAll_ok h2]
    rfl
theorem keysF_ok {x : PyData} {ks : List Key} (h : keysF x = some ks) : KeysD x ks := by
  cases x with
  | str z => cases h; exact .inl ⟨z, rfl, rfl⟩
  | list xs => exact .inr (.inl (by rw [keysAll_ok h]))
  | tuple xs => exact .inr (.inr (by rw [keysAll_ok h]))
  | _ => cases h
def eLenSet (x : PyData) : Option PyData := (keysF x).bind fun ks => if ks.length + 1 < scanBound then some (.int (dist ks).length) else none
def strKeys : List Key → Option (List Str)
  | [] => some []
  | .inr z :: r => (strKeys r).map fun zs => z :: zs
  | _ :: _ => none
theorem strKeys_ok : ∀ {ks : List Key} {zs : List Str}, strKeys ks = some zs → ks = zs.map Sum.inr
  | [], _, h => by cases h; rfl
  | .inr z :: r, _, h => by
    obtain ⟨t, h1, h⟩ := Option.map_eq_some_iff.mp h
    subst h
    rw [strKeys_ok h1]
    rfl
  | .inl _ :: _, _, h => by cases h
def eSortSet (x : PyData) : Option (List PyData) := (keysF x).bind fun ks => (strKeys ks).bind fun zs => if zs.length + 1 < scanBound then some ((asc zs).map .str) else none
def eJoin : Str → PyData → Option PyData
  | a, .list xs => (strsOf xs).bind fun ys => if (ys.map (·.length)).sum + ys.length * a.length ≤ 16777216 then some (.str (Txt.join a ys)) else none
  | _, _ => none
def eIndex : Str → PyData → Option PyData
  | a, .str c => match Builtin.Str.occurrences a c 0 a.length 1 with | i :: _ => some (.int (i : Nat)) | [] => none
  | _, _ => none
def eSl (lo hi : Option Int) : PyData → Option PyData
  | .str z => if z.length ≤ sizeLine then some (.str (cutS z lo hi)) else none
  | .tuple xs => some (.tuple (cutD xs lo hi))
  | .list xs => some (.list (cutD xs lo hi))
  | _ => none
section
variable {ta tb tc : WE} {ea eb ec : VE} {tl th : WO} {el eh : VO}
theorem h2_mul : H2 pMul eMul := fun x y P r q k => by
  cases x with
  | int i => cases y with
    | int j =>
      obtain ⟨c, e⟩ := ite_some q
      subst e
      refine ⟨?_, k⟩
      rcases (Bool.or_eq_true _ _).mp c with c | c
      · obtain ⟨c1, c2⟩ := Bool.and_eq_true_iff.mp c
        exact .inl ⟨of_decide_eq_true c1, of_decide_eq_true c2⟩
      · obtain ⟨c1, c2⟩ := Bool.and_eq_true_iff.mp c
        exact .inr ⟨of_decide_eq_true c1, of_decide_eq_true c2⟩
    | _ => cases q
  | list xs => cases y with
    | int j => obtain ⟨c, e⟩ := ite_some q; subst e; exact ⟨c.1, c.2.1, c.2.2, k⟩
    | _ => cases q
  | _ => cases y <;> cases q
theorem h2_catL : H2L pCatL eCatL := fun x y P r q k => by
  cases x <;> cases y <;> first | (obtain ⟨c, e⟩ := ite_some q; subst e; exact ⟨c, k⟩) | cases q
theorem h2_repL : H2L pRepL eRepL := fun x y P r q k => by
  cases x <;> cases y <;> first | (obtain ⟨c, e⟩ := ite_some q; subst e; exact ⟨c.1, c.2.1, c.2.2, k⟩) | cases q
theorem h1_lenSet : H1 pLenSet eLenSet := fun x P r q k => by
  obtain ⟨ks, h1, q⟩ := bnd q
  obtain ⟨c, e⟩ := ite_some q
  subst e
  exact .inl ⟨ks, keysF_ok h1, c, k⟩
theorem h1_sortSet : H1L pSortSet eSortSet := fun x P r q k => by
  obtain ⟨ks, h1, q⟩ := bnd q
  obtain ⟨zs, h2, q⟩ := bnd q
  obtain ⟨c, e⟩ := ite_some q
  subst e
  exact ⟨zs, by rw [← strKeys_ok h2]; exact keysF_ok h1, c, k⟩
abbrev HM (p : PS2) (e : Str → PyData → Option PyData) : Prop := ∀ a y P r, e a y = some r → P r → p a y P
theorem hm_join : HM pJoin eJoin := fun a y P r q k => by
  cases y with
  | list xs =>
    obtain ⟨ys, h1, q⟩ := bnd q
    obtain ⟨c, e⟩ := ite_some q
    subst e
    show (match strsOf xs with | some ys => (ys.map (·.length)).sum + ys.length * a.length ≤ 16777216 ∧ P (.str (Txt.join a ys)) | none => False)
    rw [h1]
    exact ⟨c, k⟩
  | _ => cases q
theorem hm_index : HM pIndex eIndex := fun a y P r q k => by
  cases y with
  | str c =>
    have q : (match Builtin.Str.occurrences a c 0 a.length 1 with | i :: _ => some (PyData.int (i : Nat)) | [] => none) = some r := q
    show (match Builtin.Str.occurrences a c 0 a.length 1 with | i :: _ => P (.int (i : Nat)) | [] => False)
    cases e : Builtin.Str.occurrences a c 0 a.length 1 with
    | nil => rw [e] at q; cases q
    | cons i l => rw [e] at q; cases q; exact k
  | _ => cases q
end
end Pu
namespace Pu
open PySem PySem.Spec PyProof.Rows L2 SeqAt PuS
abbrev eLt := eI (fun _ _ => true) fun i j => .bool (decide (i < j))
abbrev eLe := eI (fun _ _ => true) fun i j => .bool (decide (i ≤ j))
abbrev eGt := eI (fun _ _ => true) fun i j => .bool (decide (j < i))
abbrev eGe := eI (fun _ _ => true) fun i j => .bool (decide (j ≤ i))
abbrev eSub := eI (fun _ _ => true) fun i j => .int (i - j)
abbrev eMod := eI (fun _ j => decide (0 < j)) fun i j => .int (i % j)
theorem h2_lt : H2 pLt eLt := h2_i fun _ _ _ => trivial
theorem h2_le : H2 pLe eLe := h2_i fun _ _ _ => trivial
theorem h2_gt : H2 pGt eGt := h2_i fun _ _ _ => trivial
theorem h2_ge : H2 pGe eGe := h2_i fun _ _ _ => trivial
theorem h2_sub : H2 pSub eSub := h2_i fun _ _ _ => trivial
theorem h2_mod : H2 pMod eMod := h2_i fun _ _ h => of_decide_eq_true h
end Pu
namespace Pu
open PySem PySem.Spec PyProof.Rows L2 SeqAt PuS
def chS (z : Str) : List PyData := z.cps.toList.map fun c => .str ⟨#[c]⟩
def chV (z : Str) : List V := z.cps.toList.map fun c => .str ⟨#[c]⟩
theorem rvs_ch {K : PySem.W.Frag} {F : Hp} (z : Str) : RVs K F (chV z) (chS z) := by
  unfold chV chS
  generalize z.cps.toList = l
  induction l with
  | nil => exact .nil
  | cons c r ih => exact .cons (.str _) ih
/-- list(x) of a list, a tuple, a text -/
def pListA : PyData → (List PyData → Prop) → Prop
  | .list xs, P => P xs
  | .tuple xs, P => P xs
  | .str z, P => z.length ≤ sizeLine ∧ P (chS z)
  | _, _ => False
def eListA : PyData → Option (List PyData)
  | .list xs => some xs
  | .tuple xs => some xs
  | .str z => if z.length ≤ sizeLine then some (chS z) else none
  | _ => none
theorem h1_listA : H1L pListA eListA := fun x P r q k => by
  cases x <;> first | (cases q; exact k) | (obtain ⟨c, e⟩ := ite_some q; subst e; exact ⟨c, k⟩) | cases q
end Pu
namespace Pu
open PySem PySem.Spec PyProof.Rows L2 SeqAt PuS
/-- from env with n draws left at least, t gives an r with m draws left at least, of which Q -/
def ME {α : Type} (t : En → Nat → (α → Nat → Prop) → Prop) (env : En) (n : Nat) (Q : α → Nat → Prop) : Prop :=
  ∀ (b : Nat) (P : α → Nat → Prop), n ≤ b → (∀ r m b', Q r m → m ≤ b' → P r b') → t env b P
def MD (f : WD) (ss : List Sl) (n : Nat) (Q : PyData → Nat → Prop) : Prop :=
  ∀ (b : Nat) (P : PyData → Nat → Prop), n ≤ b → (∀ r m b', Q r m → m ≤ b' → P r b') → f ss b P
/-- a statement: N what follows, R returns, B breaks, C continues -/
def MS (t : WS) (env : En) (n : Nat) (N : En → Nat → Prop) (R : PyData → Nat → Prop) (B C : En → Nat → Prop) : Prop :=
  ∀ (PD : PEnds) (b : Nat), n ≤ b → (∀ e m b', N e m → m ≤ b' → PD.nx e b') → (∀ r m b', R r m → m ≤ b' → PD.rt r b') →
    (∀ e m b', B e m → m ≤ b' → PD.bk e b') → (∀ e m b', C e m → m ≤ b' → PD.ct e b') → t PD env b
section
variable {α : Type} {t u : En → Nat → (α → Nat → Prop) → Prop} {env : En} {n : Nat} {Q : α → Nat → Prop}
theorem ME.imp {Q' : α → Nat → Prop} (h : ME t env n Q) (i : ∀ r m, Q r m → Q' r m) : ME t env n Q' := fun b P hb k => h b P hb fun r m b' q hm => k r m b' (i r m q) hm
theorem ME.pure {e : En → Option α} (ht : ∀ env b P r, e env = some r → P r b → t env b P) {r : α} (he : e env = some r) (q : Q r n) : ME t env n Q := fun b P hb k => ht env b P r he (k r n b q hb)
end
section
variable {f : WD} {ss : List Sl} {n : Nat} {Q Q' : PyData → Nat → Prop}
theorem MD.imp (h : MD f ss n Q) (i : ∀ r m, Q r m → Q' r m) : MD f ss n Q' := fun b P hb k => h b P hb fun r m b' q hm => k r m b' (i r m q) hm
end
section
variable {ta tb tc : WE} {tt tu : WT} {tf : WF} {env : En} {n : Nat} {Q : PyData → Nat → Prop} {QT : Bool → Nat → Prop} {QL : List PyData → Nat → Prop}
theorem m_c {d : PyData} (q : Q d n) : ME (wC d) env n Q := fun b P hb k => k d n b q hb
theorem m_d0 (q : Q (.dict []) n) : ME wD0 env n Q := fun b P hb k => k _ n b q hb
theorem m_var {i : Nat} {x : PyData} (h : vVar i env = some x) (q : Q x n) : ME (wVar i) env n Q := ME.pure h_var h q
theorem m_val {i : Nat} {x : PyData} (h : vVal i env = some x) (q : Q x n) : ME (wVal i) env n Q := ME.pure h_val h q
theorem m_z (h : ME tf env n fun xs m => Q (.list xs) m) : ME (fz tf) env n Q := fun b P hb k => h b _ hb fun r m b' q hm => k _ m b' q hm
theorem m_op {p : P2} {e : PyData → PyData → Option PyData} (hp : H2 p e) (h : ME ta env n fun x m => ME tb env m fun y m' => ∃ z, e x y = some z ∧ Q z m') : ME (wOp p ta tb) env n Q :=
  fun b P hb k => h b _ hb fun x m b1 hx hb1 => hx b1 _ hb1 fun y m' b2 ⟨z, e, q⟩ hb2 => hp x y _ z e (k z m' b2 q hb2)
theorem m_opL {p : PyData → PyData → (List PyData → Prop) → Prop} {e : PyData → PyData → Option (List PyData)} (hp : H2L p e) (h : ME ta env n fun x m => ME tb env m fun y m' => ∃ z, e x y = some z ∧ QL z m') : ME (wOpL p ta tb) env n QL :=
  fun b P hb k => h b _ hb fun x m b1 hx hb1 => hx b1 _ hb1 fun y m' b2 ⟨z, e, q⟩ hb2 => hp x y _ z e (k z m' b2 q hb2)
theorem m_1 {p : P1} {e : PyData → Option PyData} (hp : H1 p e) (h : ME ta env n fun x m => ∃ z, e x = some z ∧ Q z m) : ME (w1 p ta) env n Q :=
  fun b P hb k => h b _ hb fun x m b1 ⟨z, e, q⟩ hb1 => hp x _ z e (k z m b1 q hb1)
theorem m_1L {p : PyData → (List PyData → Prop) → Prop} {e : PyData → Option (List PyData)} (hp : H1L p e) (h : ME ta env n fun x m => ∃ z, e x = some z ∧ QL z m) : ME (w1L p ta) env n QL :=
  fun b P hb k => h b _ hb fun x m b1 ⟨z, e, q⟩ hb1 => hp x _ z e (k z m b1 q hb1)
theorem m_ms {p : PS2} {e : Str → PyData → Option PyData} (hp : HM p e) (h : ME ta env n fun x m => ∃ a, x = .str a ∧ ME tb env m fun y m' => ∃ z, e a y = some z ∧ Q z m') : ME (wMS p ta tb) env n Q :=
  fun b P hb k => h b _ hb fun x m b1 ⟨a, ea, hx⟩ hb1 => by
    subst ea
    exact hx b1 _ hb1 fun y m' b2 ⟨z, e, q⟩ hb2 => hp a y _ z e (k z m' b2 q hb2)
theorem m_tt (h : ME ta env n fun d m => ∃ c, d = .bool c ∧ QT c m) : ME (wTt ta) env n QT :=
  fun b P hb k => h b _ hb fun x m b1 ⟨c, e, q⟩ hb1 => by subst e; exact k c m b1 q hb1
theorem m_tru (h : ME ta env n fun d m => ∃ c, eTru d = some c ∧ QT c m) : ME (wTru ta) env n QT :=
  fun b P hb k => h b _ hb fun x m b1 ⟨c, e, q⟩ hb1 => tru_run e (k c m b1 q hb1)
theorem m_notT (h : ME tt env n fun c m => QT (!c) m) : ME (wNotT tt) env n QT := fun b P hb k => h b _ hb fun c m b1 q hb1 => k _ m b1 q hb1
theorem m_andT (h : ME tt env n fun c m => (c = true → ME tu env m QT) ∧ (c = false → QT false m)) : ME (wAndT tt tu) env n QT :=
  fun b P hb k => h b _ hb fun c m b1 ⟨q1, q2⟩ hb1 => by
    cases c with
    | true => exact q1 rfl b1 P hb1 k
    | false => exact k false m b1 (q2 rfl) hb1
theorem m_orT (h : ME tt env n fun c m => (c = true → QT true m) ∧ (c = false → ME tu env m QT)) : ME (wOrT tt tu) env n QT :=
  fun b P hb k => h b _ hb fun c m b1 ⟨q1, q2⟩ hb1 => by
    cases c with
    | true => exact k true m b1 (q1 rfl) hb1
    | false => exact q2 rfl b1 P hb1 k
theorem m_yes (q : QT true n) : ME wYes env n QT := fun b P hb k => k true n b q hb
theorem m_ifE (h : ME tt env n fun c m => (c = true → ME ta env m Q) ∧ (c = false → ME tb env m Q)) : ME (wIfE tt ta tb) env n Q :=
  fun b P hb k => h b _ hb fun c m b1 ⟨q1, q2⟩ hb1 => by
    cases c with
    | true => exact q1 rfl b1 P hb1 k
    | false => exact q2 rfl b1 P hb1 k
theorem m_andE (h : ME ta env n fun x m => ∃ c, eTru x = some c ∧ (c = true → ME tb env m Q) ∧ (c = false → Q x m)) : ME (wAndE ta tb) env n Q :=
  fun b P hb k => h b _ hb fun x m b1 ⟨c, e, q1, q2⟩ hb1 => tru_run e (by
    cases c with
    | true => exact q1 rfl b1 P hb1 k
    | false => exact k x m b1 (q2 rfl) hb1)
theorem m_orE (h : ME ta env n fun x m => ∃ c, eTru x = some c ∧ (c = true → Q x m) ∧ (c = false → ME tb env m Q)) : ME (wOrE ta tb) env n Q :=
  fun b P hb k => h b _ hb fun x m b1 ⟨c, e, q1, q2⟩ hb1 => tru_run e (by
    cases c with
    | true => exact k x m b1 (q1 rfl) hb1
    | false => exact q2 rfl b1 P hb1 k)
theorem m_notE (h : ME ta env n fun x m => ∃ c, eTru x = some c ∧ Q (.bool (!c)) m) : ME (wNotE ta) env n Q :=
  fun b P hb k => h b _ hb fun x m b1 ⟨c, e, q⟩ hb1 => tru_run e (k _ m b1 q hb1)
theorem m_neg (h : ME ta env n fun x m => ∃ i, x = .int i ∧ Q (.int (-i)) m) : ME (wNeg ta) env n Q :=
  fun b P hb k => h b _ hb fun x m b1 ⟨i, e, q⟩ hb1 => by subst e; exact k _ m b1 q hb1
theorem m_nil (q : QL [] n) : ME wNil env n QL := fun b P hb k => k [] n b q hb
theorem m_cons {tl : WL} (h : ME ta env n fun x m => ME tl env m fun xs m' => QL (x :: xs) m') : ME (wCons ta tl) env n QL :=
  fun b P hb k => h b _ hb fun x m b1 hx hb1 => hx b1 _ hb1 fun xs m' b2 q hb2 => k _ m' b2 q hb2
theorem m_tup {tl : WL} (h : ME tl env n fun xs m => xs.length ≤ sizeLine ∧ Q (.tuple xs) m) : ME (wTup tl) env n Q :=
  fun b P hb k => h b _ hb fun xs m b1 ⟨l, q⟩ hb1 => ⟨l, k _ m b1 q hb1⟩
theorem m_lst {tl : WL} (h : ME tl env n fun xs m => xs.length ≤ sizeLine ∧ QL xs m) : ME (wLst tl) env n QL :=
  fun b P hb k => h b _ hb fun xs m b1 ⟨l, q⟩ hb1 => ⟨l, k _ m b1 q hb1⟩
theorem m_aNil {QA : List Sl → Nat → Prop} (q : QA [] n) : ME wANil env n QA := fun b P hb k => k [] n b q hb
theorem m_aCons {QA : List Sl → Nat → Prop} {tl : WA} (h : ME ta env n fun x m => ME tl env m fun xs m' => QA (.d x :: xs) m') : ME (wACons ta tl) env n QA :=
  fun b P hb k => h b _ hb fun x m b1 hx hb1 => hx b1 _ hb1 fun xs m' b2 q hb2 => k _ m' b2 q hb2
/-- what a name hands on -/
def handed : Option (Option Sl) → Option Sl
  | some (some .p) => some .p
  | some (some (.d x)) => some (.d x)
  | some (some (.l ys)) => some (.r ys)
  | some (some (.r ys)) => some (.r ys)
  | _ => none
theorem m_aName {QA : List Sl → Nat → Prop} {tl : WA} {i : Nat} {s : Sl} (hs : handed env[i]? = some s) (h : ME tl env n fun xs m' => QA (s :: xs) m') : ME (wAName i tl) env n QA := fun b P hb k => by
  unfold wAName
  split
  all_goals first
    | (rename_i e; rw [e] at hs; cases hs; exact h b _ hb fun xs m' b2 q hb2 => k _ m' b2 q hb2)
    | (rename_i x e; rw [e] at hs; cases hs; exact h b _ hb fun xs m' b2 q hb2 => k _ m' b2 q hb2)
    | skip
  rename_i h1 h2 h3 h4
  exfalso
  revert hs
  cases e : env[i]? with
  | none => intro z; cases z
  | some o => cases o with
    | none => intro z; cases z
    | some s' => cases s' with
      | p => exact absurd e h1
      | d x => exact absurd e (h2 x)
      | l x => exact absurd e (h3 x)
      | r x => exact absurd e (h4 x)
      | k x => intro z; cases z
theorem m_call {f : WD} {tl : WA} (h : ME tl env n fun ss m => MD f ss m Q) : ME (wCall f tl) env n Q :=
  fun b P hb k => h b _ hb fun ss m b1 q hb1 => q b1 P hb1 k
theorem m_noPart {QO : Option Int → Nat → Prop} (q : QO none n) : ME wNoPart env n QO := fun b P hb k => k none n b q hb
theorem m_part {QO : Option Int → Nat → Prop} (h : ME ta env n fun x m => ∃ i, x = .int i ∧ QO (some i) m) : ME (wPart ta) env n QO :=
  fun b P hb k => h b _ hb fun x m b1 ⟨i, e, q⟩ hb1 => by subst e; exact k _ m b1 q hb1
theorem sl_run {lo hi : Option Int} {x r : PyData} {P : PyData → Prop} (h : eSl lo hi x = some r) (k : P r) : pSl lo hi x P := by
  cases x <;> first | (cases h; exact k) | (obtain ⟨c, e⟩ := ite_some h; subst e; exact ⟨c, k⟩) | cases h
theorem m_sl {tl th : WO} (h : ME ta env n fun x m => ME tl env m fun lo m1 => ME th env m1 fun hi m2 => ∃ z, eSl lo hi x = some z ∧ Q z m2) : ME (wSl ta tl th) env n Q :=
  fun b P hb k => h b _ hb fun x m b1 hx hb1 => hx b1 _ hb1 fun lo m1 b2 hl hb2 => hl b2 _ hb2 fun hi m2 b3 ⟨z, e, q⟩ hb3 => sl_run e (k z m2 b3 q hb3)
theorem m_slL {tl th : WO} (h : ME ta env n fun x m => ME tl env m fun lo m1 => ME th env m1 fun hi m2 => ∃ xs, x = .list xs ∧ QL (cutD xs lo hi) m2) : ME (wSlL ta tl th) env n QL :=
  fun b P hb k => h b _ hb fun x m b1 hx hb1 => hx b1 _ hb1 fun lo m1 b2 hl hb2 => hl b2 _ hb2 fun hi m2 b3 ⟨xs, e, q⟩ hb3 => by subst e; exact k _ m2 b3 q hb3
theorem m_ch {p p' : P2} {e e' : PyData → PyData → Option PyData} (hp : H2 p e) (hp' : H2 p' e')
    (h : ME ta env n fun x m => ME tb env m fun y m1 => ∃ c, e x y = some (.bool c) ∧ (c = true → ME tc env m1 fun w m2 => ∃ z, e' y w = some z ∧ Q z m2) ∧ (c = false → Q (.bool false) m1)) : ME (wCh p p' ta tb tc) env n Q :=
  fun b P hb k => h b _ hb fun x m b1 hx hb1 => hx b1 _ hb1 fun y m1 b2 ⟨c, e1, q1, q2⟩ hb2 => hp x y _ _ e1 (by
    cases c with
    | true => exact q1 rfl b2 _ hb2 fun w m2 b3 ⟨z, e2, q⟩ hb3 => hp' y w _ z e2 (k z m2 b3 q hb3)
    | false => exact k _ m1 b2 (q2 rfl) hb2)
theorem m_seq (h : ME ta env n fun x m => ∃ xs, seqOf x = some xs ∧ QL xs m) : ME (wSeq ta) env n QL :=
  fun b P hb k => h b _ hb fun x m b1 ⟨xs, e, q⟩ hb1 => by
    show (match seqOf x with | some xs => P xs b1 | none => False)
    rw [e]
    exact k xs m b1 q hb1
theorem m_rng1 (h : ME ta env n fun x m => ∃ j, x = .int j ∧ -(2 ^ 62) ≤ j ∧ j < 2 ^ 62 ∧ QL (rngD 0 j.toNat) m) : ME (wRng1 ta) env n QL :=
  fun b P hb k => h b _ hb fun x m b1 ⟨j, e, l1, l2, q⟩ hb1 => by subst e; exact ⟨l1, l2, k _ m b1 q hb1⟩
theorem m_zip (h : ME ta env n fun x m => ME tb env m fun y m1 => ∃ xs ys, (x = .list xs ∧ y = .list ys ∨ x = .tuple xs ∧ y = .tuple ys) ∧ QL (zipD xs ys) m1) : ME (wZip ta tb) env n QL :=
  fun b P hb k => h b _ hb fun x m b1 hx hb1 => hx b1 _ hb1 fun y m1 b2 ⟨xs, ys, e, q⟩ hb2 => by
    rcases e with ⟨e1, e2⟩ | ⟨e1, e2⟩ <;> subst e1 <;> subst e2 <;> exact k _ m1 b2 q hb2
/-- a comprehension, by what holds of the rest, what is made, the draws left -/
theorem lc_inv {g : Tg} {own : List Nat} {PL : List PyData → Nat → Prop} (J : List PyData → List PyData → Nat → Prop)
    (step : ∀ x rest acc m, J (x :: rest) acc m → ∃ e', setT g x (wipeE env own) = some e' ∧ ME tt e' m fun c m1 => (c = true → ME ta e' m1 fun y m2 => J rest (acc ++ [y]) m2) ∧ (c = false → J rest acc m1))
    (done : ∀ acc m b, J [] acc m → m ≤ b → PL acc b) : ∀ (xs : List PyData) (b : Nat) (acc : List PyData) (m : Nat), J xs acc m → m ≤ b → wLc g tt ta own env xs b acc PL
  | [], b, acc, m, j, hb => by unfold wLc; exact done acc m b j hb
  | x :: xs, b, acc, m, j, hb => by
    obtain ⟨e', h1, h2⟩ := step x xs acc m j
    unfold wLc
    rw [h1]
    refine h2 b _ hb fun c m1 b1 ⟨q1, q2⟩ hb1 => ?_
    cases c with
    | true => exact q1 rfl b1 _ hb1 fun y m2 b2 q hb2 => lc_inv J step done xs b2 (acc ++ [y]) m2 q hb2
    | false => exact lc_inv J step done xs b1 acc m1 (q2 rfl) hb1
theorem m_lc {ti : WI} {g : Tg} {own : List Nat} (h : ME ti env n fun xs m => xs.length < sizeLine ∧ ∃ J : List PyData → List PyData → Nat → Prop, J xs [] m ∧
      (∀ x rest acc m, J (x :: rest) acc m → ∃ e', setT g x (wipeE env own) = some e' ∧ ME tt e' m fun c m1 => (c = true → ME ta e' m1 fun y m2 => J rest (acc ++ [y]) m2) ∧ (c = false → J rest acc m1)) ∧
      ∀ acc m, J [] acc m → QL acc m) : ME (fLc ti g tt ta own) env n QL :=
  fun b P hb k => h b _ hb fun xs m b1 ⟨l, J, j0, step, done⟩ hb1 => ⟨l, lc_inv J step (fun acc m b' j hb' => k acc m b' (done acc m j) hb') xs b1 [] m j0 hb1⟩
/-- one that draws nothing: a filter and a map -/
theorem m_lcF {ti : WI} {g : Tg} {own : List Nat} (c : PyData → Bool) (y : PyData → PyData) (h : ME ti env n fun xs m => xs.length < sizeLine ∧
      (∀ x ∈ xs, ∃ e', setT g x (wipeE env own) = some e' ∧ (∀ m, ME tt e' m fun k m1 => k = c x ∧ m1 = m) ∧ (c x = true → ∀ m, ME ta e' m fun d m1 => d = y x ∧ m1 = m)) ∧
      QL ((xs.filter c).map y) m) : ME (fLc ti g tt ta own) env n QL :=
  m_lc (h.imp fun xs m ⟨l, each, q⟩ => ⟨l, fun rest acc m1 => m1 = m ∧ ∃ pre, xs = pre ++ rest ∧ acc = (pre.filter c).map y, ⟨rfl, [], rfl, rfl⟩, fun x rest acc m1 ⟨em, pre, e1, e2⟩ => by
    subst em
    obtain ⟨e', h1, h2, h3⟩ := each x (by rw [e1]; simp)
    refine ⟨e', h1, (h2 m1).imp fun k m2 ⟨ek, em⟩ => ?_⟩
    subst ek em
    refine ⟨fun ck => (h3 ck m2).imp fun d m3 ⟨ed, em⟩ => ?_, fun ck => ?_⟩
    · subst ed em
      exact ⟨rfl, pre ++ [x], by rw [e1]; simp, by rw [e2, List.filter_append, List.map_append]; simp [ck]⟩
    · exact ⟨rfl, pre ++ [x], by rw [e1]; simp, by rw [e2, List.filter_append, List.map_append]; simp [ck]⟩, fun acc m1 ⟨em, pre, e1, e2⟩ => by
    subst em
    rw [List.append_nil] at e1
    subst e1
    rw [e2]
    exact q⟩)
end
section
variable {t u tb : WS} {ta tc : WE} {tt : WT} {tf : WF} {ti : WI} {env : En} {n i j : Nat} {g : Tg} {N : En → Nat → Prop} {R : PyData → Nat → Prop} {B C : En → Nat → Prop}
theorem n_next (q : N env n) : MS sNext env n N R B C := fun PD b hb kn kr kb kc => kn env n b q hb
theorem n_seq (h : MS t env n (fun e m => MS u e m N R B C) R B C) : MS (sSeq t u) env n N R B C :=
  fun PD b hb kn kr kb kc => h _ b hb (fun e m b' q hm => q PD b' hm kn kr kb kc) kr kb kc
theorem n_ret (h : ME ta env n R) : MS (sRet ta) env n N R B C := fun PD b hb kn kr kb kc => h b _ hb kr
theorem n_if (h : ME tt env n fun c m => (c = true → MS t env m N R B C) ∧ (c = false → MS u env m N R B C)) : MS (sIf tt t u) env n N R B C :=
  fun PD b hb kn kr kb kc => h b _ hb fun c m b1 ⟨q1, q2⟩ hb1 => by
    cases c with
    | true => exact q1 rfl PD b1 hb1 kn kr kb kc
    | false => exact q2 rfl PD b1 hb1 kn kr kb kc
theorem n_asg (h : ME ta env n fun d m => ∃ e', setT g d env = some e' ∧ N e' m) : MS (sAsg ta g) env n N R B C :=
  fun PD b hb kn kr kb kc => h b _ hb fun d m b1 ⟨e', e, q⟩ hb1 => by
    show (match setT g d env with | some env' => PD.nx env' b1 | none => False)
    rw [e]
    exact kn e' m b1 q hb1
theorem n_set (h : ME ta env n fun d m => N (env.set i (some (.d d))) m) : MS (sSet ta i) env n N R B C := fun PD b hb kn kr kb kc => h b _ hb fun d m b1 q hb1 => kn _ m b1 q hb1
theorem n_setL (h : ME tf env n fun d m => N (env.set i (some (.l d))) m) : MS (sSetL tf i) env n N R B C := fun PD b hb kn kr kb kc => h b _ hb fun d m b1 q hb1 => kn _ m b1 q hb1
theorem n_app {xs : List PyData} (hx : env[i]? = some (some (.l xs))) (h : ME ta env n fun d m => xs.length < sizeLine ∧ N (env.set i (some (.l (xs ++ [d])))) m) : MS (sApp i ta) env n N R B C :=
  fun PD b hb kn kr kb kc => by
    unfold sApp
    rw [hx]
    exact h b _ hb fun d m b1 ⟨l, q⟩ hb1 => ⟨l, kn _ m b1 q hb1⟩
theorem n_retN {d : PyData} (hx : env[i]? = some (some (.d d)) ∨ ∃ xs, d = .list xs ∧ env[i]? = some (some (.l xs))) (q : R d n) : MS (sRetN i) env n N R B C :=
  fun PD b hb kn kr kb kc => by
    unfold sRetN
    rcases hx with hx | ⟨xs, rfl, hx⟩ <;> (rw [hx]; exact kr _ n b q hb)
theorem n_par (h : ME ta env n fun x m => ME tc env m fun y m1 => N ((env.set i (some (.d x))).set j (some (.d y))) m1) : MS (sPar i j ta tc) env n N R B C :=
  fun PD b hb kn kr kb kc => h b _ hb fun x m b1 hx hb1 => hx b1 _ hb1 fun y m1 b2 q hb2 => kn _ m1 b2 q hb2
theorem n_parL (h : ME ta env n fun x m => ME tf env m fun y m1 => N ((env.set i (some (.d x))).set j (some (.l y))) m1) : MS (sParL i j ta tf) env n N R B C :=
  fun PD b hb kn kr kb kc => h b _ hb fun x m b1 hx hb1 => hx b1 _ hb1 fun y m1 b2 q hb2 => kn _ m1 b2 q hb2
theorem for_inv {PD : PEnds} (I : List PyData → En → Nat → Prop)
    (step : ∀ x rest e m, I (x :: rest) e m → ∃ e', setT g x e = some e' ∧ MS tb e' m (fun e2 m2 => I rest e2 m2) R N (fun e2 m2 => I rest e2 m2))
    (done : ∀ e m, I [] e m → N e m) (kn : ∀ e m b', N e m → m ≤ b' → PD.nx e b') (kr : ∀ r m b', R r m → m ≤ b' → PD.rt r b') :
    ∀ (xs : List PyData) (e : En) (m b : Nat), I xs e m → m ≤ b → wFor g tb PD xs e b
  | [], e, m, b, j, hb => by unfold wFor; exact kn e m b (done e m j) hb
  | x :: xs, e, m, b, j, hb => by
    obtain ⟨e', h1, h2⟩ := step x xs e m j
    unfold wFor
    rw [h1]
    exact h2 _ b hb (fun e2 m2 b2 q h => for_inv I step done kn kr xs e2 m2 b2 q h) kr kn (fun e2 m2 b2 q h => for_inv I step done kn kr xs e2 m2 b2 q h)
theorem n_for (h : ME ti env n fun xs m => ∃ I : List PyData → En → Nat → Prop, I xs env m ∧
      (∀ x rest e m, I (x :: rest) e m → ∃ e', setT g x e = some e' ∧ MS tb e' m (fun e2 m2 => I rest e2 m2) R N (fun e2 m2 => I rest e2 m2)) ∧ ∀ e m, I [] e m → N e m) : MS (sFor ti g tb) env n N R B C :=
  fun PD b hb kn kr kb kc => h b _ hb fun xs m b1 ⟨I, i0, step, done⟩ hb1 => for_inv I step done kn kr xs env m b1 i0 hb1
theorem MS.mid {N' : En → Nat → Prop} {R' : PyData → Nat → Prop} (h : MS t env n N' R' B C) (hn : ∀ e m, N' e m → N e m) (hr : ∀ r m, R' r m → R r m) : MS t env n N R B C :=
  fun PD b hb kn kr kb kc => h PD b hb (fun e m b' q => kn e m b' (hn e m q)) (fun r m b' q => kr r m b' (hr r m q)) kb kc
end
abbrev noEnd : En → Nat → Prop := fun _ _ => False
theorem md_def {np nn : Nat} {t : WS} {ss : List Sl} {n : Nat} {Q : PyData → Nat → Prop} {env : En} (hl : ss.length = np) (he : env0 nn ss = env) (h : MS t env n (fun _ m => Q .none m) Q noEnd noEnd) : MD (wDef np nn t) ss n Q :=
  fun b P hb k => ⟨hl, by subst he; exact h _ b hb (fun e m b' q hm => k _ m b' q hm) k (fun _ _ _ q => q.elim) (fun _ _ _ q => q.elim)⟩
end Pu
namespace PySem
open Sem (wp)
set_option maxHeartbeats 4000000 in
theorem enum1_newB {v : Value} {o : Obj} {H : Heap → Prop} (B : Begins v o H) :
    Meets (Builtin.«enumerate.__new__» ⟨[.type "enumerate", v], []⟩) (fun _ R s => H s.heap ∧
      R (.ok (.ret (.ref (s.heap.push o).objs.size))) { s with heap := (s.heap.push o).push { cls := .type "enumerate", data := .fields #[.none, .bool false, .ref s.heap.objs.size, rawInt 0, .none, .none] } }) :=
  .of_wp fun prog w A R s h => by
    obtain ⟨hp, g, d, tk, os⟩ := s
    obtain ⟨h1, h⟩ := h
    have hsub := sub_enumerate
    have q1 : ∀ {A' : Around} {E : Value → Shared → Prop} {Q : Value → Shared → Prop}, Q (.ref hp.objs.size) ⟨hp.push o, g, d, tk, os⟩ → wpAny (model prog w) A' (pyIter v) Q E ⟨hp, g, d, tk, os⟩ :=
      fun q => B.iter prog w _ _ ⟨hp, g, d, tk, os⟩ _ h1 q
    wp_walk using q1
    refine wpAny_stack_any fun st => wpAny_pure ?_
    split
    · rename_i c _ _ _ _ _
      cases (c == Value.type "enumerate")
      · wp_walk using q1
        exact ⟨_, rfl, h⟩
      · wp_walk using q1
        exact ⟨_, rfl, h⟩
    · wp_walk using q1
      exact ⟨_, rfl, h⟩
section
variable {prog : Program} {w : World} {A : Around} {E : Value → Shared → Prop} {s : Shared}
theorem call_enum1 {v : Value} {o : Obj} {H : Heap → Prop} {Q : Value → Shared → Prop} (B : Begins v o H) (h1 : H s.heap)
    (h : ∀ h', IsEnum h' (s.heap.objs.size + 1) s.heap.objs.size 0 .none → h'.get? s.heap.objs.size = some o → h'.objs.size = s.heap.objs.size + 2 →
      (∀ b o, s.heap.get? b = some o → h'.get? b = some o) → Q (.ref (s.heap.objs.size + 1)) { s with heap := h' }) :
    wpAny (model prog w) A (call (.type "enumerate") [v]) Q E s := by
  refine callType_new F.called_enumerate (by decide) (F.typeCall_enumerate_1 _) (F.newCall_enumerate_1 _) (fun obj => F.args_object_init_2 obj _) F.entry_enumerate_new
    (enum1_newB B) ⟨h1, ?_⟩
  have hz : (s.heap.push o).objs.size = s.heap.objs.size + 1 := Heap.size_push ..
  show _ ∧ _
  rw [hz]
  have he : IsEnum ((s.heap.push o).push { cls := .type "enumerate", data := .fields #[.none, .bool false, .ref s.heap.objs.size, rawInt 0, .none, .none] }) (s.heap.objs.size + 1) s.heap.objs.size 0 .none := by
    have := Heap.get?_push_size (s.heap.push o) (o := { cls := .type "enumerate", data := .fields #[.none, .bool false, .ref s.heap.objs.size, rawInt 0, .none, .none] }) rfl
    rw [hz] at this
    exact this
  exact ⟨⟨_, he, rfl⟩, h _ he (Heap.get?_push_of_some _ (Heap.get?_push_size _ B.free)) (by rw [Heap.size_push, hz]) fun b o x => Heap.get?_push_of_some _ (Heap.get?_push_of_some _ x)⟩
theorem wpAny_pyNext_enum_endT {e it t : Addr} {i : Nat} {items : Array Value} {old : Value} {Q : Option Value → Shared → Prop} (hh : A.handled = none)
    (he : IsEnum s.heap e it i old) (hit : s.heap.IsTupleIter it t i) (ht : s.heap.IsTuple t items) (hx : items[i]? = none)
    (hQ : ∀ h', Heap.ExtBut it s.heap h' → Q none { s with heap := h' }) : wpAny (model prog w) A (pyNext (.ref e)) Q E s := by
  have hT : s.TypeIs (.ref e) "enumerate" := ⟨_, he, rfl⟩
  unfold pyNext
  refine wpAny_bind (wpAny_attempt (wpAny_callSpecial?_slot (name := Str.ofString "__next__") hT F.slot_enumerate_next
    (wpAny_call_entry F.slot_enumerate_next hT F.entry_enumerate_next ?_ (F.args_enumerate_next_1 _))))
  show wpAny _ _ (field (.ref e) 2 >>= _) _ _ _
  refine wpAny_bind (wpAny_field he rfl (x := .ref it) rfl ?_)
  refine wpAny_bind (wpAny_nextOf_tuple_end hh hit ht hx fun h' x he' hx' => ?_)
  obtain ⟨o, ho, hc⟩ := hx'
  refine wpAny_bind (wpAny_isInstance (T := "StopIteration") (b := true) ⟨o, ho, hc⟩ isSubtype_stop ?_)
  exact wpAny_pure (hQ _ he')
theorem wpAny_pyNext_enum_endS {e it : Addr} {x : Str} {t : Tok} {i : Nat} {old : Value} {Q : Option Value → Shared → Prop} (hh : A.handled = none)
    (he : IsEnum s.heap e it i old) (hit : s.heap.IsStrIter it (strIterType x) x t i) (hx : x.cps[i]? = none)
    (hQ : ∀ h', Heap.ExtBut it s.heap h' → Q none { s with heap := h' }) : wpAny (model prog w) A (pyNext (.ref e)) Q E s := by
  have hT : s.TypeIs (.ref e) "enumerate" := ⟨_, he, rfl⟩
  unfold pyNext
  refine wpAny_bind (wpAny_attempt (wpAny_callSpecial?_slot (name := Str.ofString "__next__") hT F.slot_enumerate_next
    (wpAny_call_entry F.slot_enumerate_next hT F.entry_enumerate_next ?_ (F.args_enumerate_next_1 _))))
  show wpAny _ _ (field (.ref e) 2 >>= _) _ _ _
  refine wpAny_bind (wpAny_field he rfl (x := .ref it) rfl ?_)
  cases ha : x.cps.all (· < 128)
  · rw [show strIterType x = "str_iterator" by simp [strIterType, ha]] at hit
    refine wpAny_bind (wpAny_nextOf_wide_end hh hit hx fun h' y he' hx' => ?_)
    obtain ⟨o, ho, hc⟩ := hx'
    refine wpAny_bind (wpAny_isInstance (T := "StopIteration") (b := true) ⟨o, ho, hc⟩ isSubtype_stop ?_)
    exact wpAny_pure (hQ _ he')
  · rw [show strIterType x = "str_ascii_iterator" by simp [strIterType, ha]] at hit
    refine wpAny_bind (wpAny_nextOf_ascii_end hh hit hx fun h' y he' hx' => ?_)
    obtain ⟨o, ho, hc⟩ := hx'
    refine wpAny_bind (wpAny_isInstance (T := "StopIteration") (b := true) ⟨o, ho, hc⟩ isSubtype_stop ?_)
    exact wpAny_pure (hQ _ he')
end
end PySem
namespace Pu
open PySem PySem.Spec PyProof.Rows L2 SeqAt PuS
def IteS (x : Str) : It :=
  ⟨fun i _ => i < x.cps.size, fun i H v H' => ∃ T c, v = .ref T ∧ H T = none ∧ H' = upd H T (.tup [.int (i : Nat), .str ⟨#[c]⟩]) ∧ x.cps[i]? = some c, fun i _ => x.cps.size ≤ i⟩
theorem turn_enumS {P : Program} {w : World} {K : PySem.W.Frag} {elts : List Expr} {kk : Nat} {tpos : Pos} (x : Str) (t : Tok) (e it : Addr) :
    Turn P w K (.Tuple elts kk tpos) (IteS x) [e, it] e (fun i h => (∃ old, IsEnum h e it ((i : Nat) : Int) old) ∧ h.IsStrIter it (strIterType x) x t i ∧ e ≠ it) where
  mem := by simp
  obj := fun i h st b hb => by
    obtain ⟨⟨old, he⟩, ⟨o, ho, hc, hd⟩, _⟩ := st
    have e' : b = e ∨ b = it := by simpa using hb
    rcases e' with z | z
    · rw [z]; exact ⟨_, he, fun v q => nomatch q⟩
    · rw [z]; exact ⟨o, ho, fun v q => by rw [hd] at q; cases q⟩
  keep := fun i h h' st k => let ⟨⟨old, he⟩, ⟨o, ho, r⟩, hne⟩ := st; ⟨⟨old, k e (by simp) _ he⟩, ⟨o, k it (by simp) o ho, r⟩, hne⟩
  item := by
    intro X hP hw hK hc i pins s σ H E I hf st hg
    subst hP hw hK
    obtain ⟨⟨old, he⟩, hit, hne⟩ := st
    have hlt : i < x.cps.size := hg
    have hel : e < s.heap.objs.size := Heap.lt_size he
    have hil : it < s.heap.objs.size := by obtain ⟨_, q, _⟩ := hit; exact Heap.lt_size q
    refine wpAny_pyNext_enum_itemD (Draws.text (A := X.A.in1) (I.ok.hd hc) it x t) he hit hlt hne (by simp [hne]) fun y h' tk hy ho hst hT hsz hk => ?_
    obtain ⟨c, u, hcx, rfl⟩ := hy
    refine ⟨_, rfl, wpAny_letOwnedTupleGo_enum (s := { s with heap := h', toks := tk + 1 }) ho fun h'' he' sb => ?_⟩
    have hT2 : h''.get? s.heap.objs.size = some { cls := .type "tuple", data := .seq #[.int i tk, .str ⟨#[c]⟩ u] } := (sb.2 _ (Nat.ne_of_gt hel)).trans hT
    have new : ObjOk X.prog X.w (upd H s.heap.objs.size (.tup [.int (i : Nat), .str ⟨#[c]⟩])) h'' s.heap.objs.size (.tup [.int (i : Nat), .str ⟨#[c]⟩]) :=
      ⟨by show 2 ≤ sizeLine; decide, [.int i tk, .str ⟨#[c]⟩ u], .cons ⟨_, rfl⟩ (.cons ⟨_, rfl⟩ .nil), ⟨_, hT2, rfl, _, rfl⟩⟩
    have I1 : Inv X pins σ (upd H s.heap.objs.size (.tup [.int (i : Nat), .str ⟨#[c]⟩])) { s with heap := h'', toks := tk + 1 } :=
      I.turnedNew (ch := [e, it]) (fun b ob hb q => (sb.2 b (fun z => hb (by simp [z]))).trans (hk b ob (fun z => hb (by simp [z])) (fun z => hb (by simp [z])) q)) hf (Nat.le_refl _) new
    refine ⟨.ref s.heap.objs.size, _, I1, rfl, ⟨_, c, rfl, I.hok.fresh (Nat.le_refl _), rfl, hcx⟩, ⟨⟨.str ⟨#[c]⟩ u, ?_⟩, ?_, hne⟩, fun b hb => ?_⟩
    · have e1 : ((i + 1 : Nat) : Int) = (i : Int) + 1 := by omega
      rw [e1]; exact he'
    · obtain ⟨o, ho2, r⟩ := hst
      exact ⟨o, (sb.2 it (Ne.symm hne)).trans ho2, r⟩
    · have hb' : b < s.heap.objs.size := by
        have e' : b = e ∨ b = it := by simpa using hb
        rcases e' with z | z
        · rw [z]; exact hel
        · rw [z]; exact hil
      rw [upd_ne (Nat.ne_of_lt hb')]
      exact (hf b hb).1
  done := by
    intro X hP hw hK hc i pins s σ H E I hf st hg
    subst hP hw hK
    obtain ⟨⟨old, he⟩, hit, hne⟩ := st
    obtain ⟨f0, f1, f2, f3, f4, f5⟩ := hf it (by simp)
    exact wpAny_pyNext_enum_endS (I.ok.hd hc) he hit (Array.getElem?_eq_none hg) fun h' eb => ⟨rfl, I.turned (t' := s.toks) (fun b o hb q => eb b o hb q) f0 f1 f3 f4 f5⟩
  self := fun A i s Q E st h => let ⟨⟨_, he⟩, _⟩ := st; wpAny_pyIter_enum he h
def IteT (K : PySem.W.Frag) (a : Addr) : It :=
  ⟨fun i H => ∃ (xs : List V) (x : V), SqT K H a xs ∧ xs[i]? = some x, fun i H v H' => ∃ T x, v = .ref T ∧ H T = none ∧ H' = upd H T (.tup [.int (i : Nat), x]) ∧ ∀ xs, SqT K H a xs → xs[i]? = some x, fun i H => ∃ xs : List V, SqT K H a xs ∧ xs.length ≤ i⟩
theorem tuple_inj {X : Cx} {pins : List (Addr × Obj)} {σ : L2.St} {H : Hp} {s : Shared} (I : Inv X pins σ H s) {a : Addr} {xs ys : List V} (h1 : SqT X.K H a xs) (h2 : SqT X.K H a ys) : ys = xs := I.tuple_inj h2 h1
theorem turn_enumT {P : Program} {w : World} {K : PySem.W.Frag} {elts : List Expr} {kk : Nat} {tpos : Pos} (a e it : Addr) (na : a ≠ e) (nb : a ≠ it) :
    Turn P w K (.Tuple elts kk tpos) (IteT K a) [e, it] e (fun i h => (∃ old, IsEnum h e it ((i : Nat) : Int) old) ∧ h.IsTupleIter it a i ∧ e ≠ it) where
  mem := by simp
  obj := fun i h st b hb => by
    obtain ⟨⟨old, he⟩, ⟨o, ho, hc, hd⟩, _⟩ := st
    have e' : b = e ∨ b = it := by simpa using hb
    rcases e' with z | z
    · rw [z]; exact ⟨_, he, fun v q => nomatch q⟩
    · rw [z]; exact ⟨o, ho, fun v q => by rw [hd] at q; cases q⟩
  keep := fun i h h' st k => let ⟨⟨old, he⟩, hi, hne⟩ := st; ⟨⟨old, k e (by simp) _ he⟩, hi.at fun o q => k it (by simp) o q, hne⟩
  item := by
    intro X hP hw hK hc i pins s σ H E I hf st hg
    subst hP hw hK
    obtain ⟨⟨old, he⟩, hit, hne⟩ := st
    obtain ⟨xs, x, hq, hx⟩ := hg
    obtain ⟨its, rv, p, hz⟩ := I.tuple hq
    obtain ⟨u, hu, ru⟩ := rv.get hx
    have hel : e < s.heap.objs.size := Heap.lt_size he
    have hil : it < s.heap.objs.size := by obtain ⟨_, q, _⟩ := hit; exact Heap.lt_size q
    have hlt : i < its.toArray.size := by
      have := (List.getElem?_eq_some_iff.mp hu).1
      simpa using this
    refine wpAny_pyNext_enum_itemD (Draws.tuple (A := X.A.in1) (I.ok.hd hc) it a nb its.toArray) he ⟨hit, p⟩ hlt hne (by simp [hne, Ne.symm na]) fun y h' tk hy ho hst hT hsz hk => ?_
    have ey : y = u := by
      have : its.toArray[i]? = some u := by simpa using hu
      rw [this] at hy
      exact (Option.some.inj hy).symm
    subst ey
    refine ⟨_, rfl, wpAny_letOwnedTupleGo_enum (s := { s with heap := h', toks := tk + 1 }) ho fun h'' he' sb => ?_⟩
    have hT2 : h''.get? s.heap.objs.size = some { cls := .type "tuple", data := .seq #[.int i tk, y] } := (sb.2 _ (Nat.ne_of_gt hel)).trans hT
    have new : ObjOk X.prog X.w (upd H s.heap.objs.size (.tup [.int (i : Nat), x])) h'' s.heap.objs.size (.tup [.int (i : Nat), x]) :=
      ⟨by show 2 ≤ sizeLine; decide, [.int i tk, y], .cons ⟨_, rfl⟩ (.cons ru .nil), ⟨_, hT2, rfl, _, rfl⟩⟩
    have I1 : Inv X pins σ (upd H s.heap.objs.size (.tup [.int (i : Nat), x])) { s with heap := h'', toks := tk + 1 } :=
      I.turnedNew (ch := [e, it]) (fun b ob hb q => (sb.2 b (fun z => hb (by simp [z]))).trans (hk b ob (fun z => hb (by simp [z])) (fun z => hb (by simp [z])) q)) hf (Nat.le_refl _) new
    refine ⟨.ref s.heap.objs.size, _, I1, rfl, ⟨_, x, rfl, I.hok.fresh (Nat.le_refl _), rfl, fun ys hy => by rw [I.tuple_inj hy hq]; exact hx⟩, ⟨⟨y, ?_⟩, hst.1.at fun o q => (sb.2 it (Ne.symm hne)).trans q, hne⟩, fun b hb => ?_⟩
    · have e1 : ((i + 1 : Nat) : Int) = (i : Int) + 1 := by omega
      rw [e1]; exact he'
    · have hb' : b < s.heap.objs.size := by
        have e' : b = e ∨ b = it := by simpa using hb
        rcases e' with z | z
        · rw [z]; exact hel
        · rw [z]; exact hil
      rw [upd_ne (Nat.ne_of_lt hb')]
      exact (hf b hb).1
  done := by
    intro X hP hw hK hc i pins s σ H E I hf st hg
    subst hP hw hK
    obtain ⟨⟨old, he⟩, hit, hne⟩ := st
    obtain ⟨xs, hq, hx⟩ := hg
    obtain ⟨its, rv, p, hz⟩ := I.tuple hq
    obtain ⟨f0, f1, f2, f3, f4, f5⟩ := hf it (by simp)
    have hl := rv.length
    -- the place of the iterator is at the end or behind it
    exact wpAny_pyNext_enum_endT (I.ok.hd hc) he hit p (by simp; omega) fun h' eb => ⟨rfl, I.turned (t' := s.toks) (fun b o hb q => eb b o hb q) f0 f1 f3 f4 f5⟩
  self := fun A i s Q E st h => let ⟨⟨_, he⟩, _⟩ := st; wpAny_pyIter_enum he h
def iEnumT (K : PySem.W.Frag) (ta : TA) : TI := fun σ H R => ta σ H fun vs H1 => (∃ a, vs = [.ref a] ∧ ((∃ xs, SqL K H1 a xs ∧ R (Ite K a) H1) ∨ ∃ xs, SqT K H1 a xs ∧ R (IteT K a) H1)) ∨ ∃ z : Str, vs = [.str z] ∧ R (IteS z) H1
theorem pi_enumT {X : Cx} {e : Expr} {ta : TA} {p pos tpos : Pos} {elts : List Expr} {kk : Nat} (hg : Gl X "enumerate") (hm : X.mg "enumerate" = none) (ha : PA X [e] ta) (hs : starEach [e] X.env = [(false, eval e X.env)] := by rfl) :
    PI X (.Tuple elts kk tpos) (.Call (.Name "enumerate" p) [e] [] pos) (iEnumT X.K ta) := by
  refine ⟨fun pins s σ H R I h => ?_⟩
  refine Call_ (ld_blt I hg hm boot_enumerate (PyProof.Rows.callWith_type1 (thn (ha.run pos pins s σ H _ I h) fun us s1 ⟨vs, H1, I1, r1, q1⟩ => ?_) hs rfl))
  rcases q1 with ⟨a, ex, q1⟩ | ⟨z, ex, q⟩
  rotate_left
  · subst ex
    obtain ⟨u, eu, ⟨tk, rfl⟩⟩ := vals1 r1
    subst eu
    have two : ∀ b, b ∈ [s1.heap.objs.size + 1, s1.heap.objs.size] → s1.heap.objs.size ≤ b := fun b hb => by
      have e' : b = s1.heap.objs.size + 1 ∨ b = s1.heap.objs.size := by simpa using hb
      rcases e' with z | z
      · rw [z]; exact Nat.le_add_right _ _
      · rw [z]; exact Nat.le_refl _
    refine call_enum1 (begins_text z tk) trivial fun h' he hit hsz hk => wpAny_pyIter_enum he ?_
    have I2 : Inv X pins σ H1 { s1 with heap := h' } := I1.kept (t' := s1.toks) hk
    exact ⟨s1.heap.objs.size + 1, [s1.heap.objs.size + 1, s1.heap.objs.size], _, _, H1, rfl, I2, turn_enumS z tk (s1.heap.objs.size + 1) s1.heap.objs.size, ⟨⟨.none, he⟩, ⟨_, hit, rfl, rfl⟩, Nat.succ_ne_self _⟩, fun b hb => I1.fpOk (two b hb) (I1.hok.fresh (two b hb)), q⟩
  subst ex
  cases r1 with
  | cons r rr =>
    cases rr
    cases r
    have two : ∀ b, b ∈ [s1.heap.objs.size + 1, s1.heap.objs.size] → s1.heap.objs.size ≤ b := fun b hb => by
      have e' : b = s1.heap.objs.size + 1 ∨ b = s1.heap.objs.size := by simpa using hb
      rcases e' with z | z
      · rw [z]; exact Nat.le_add_right _ _
      · rw [z]; exact Nat.le_refl _
    rcases q1 with ⟨xs, hq, q⟩ | ⟨xs, hq, q⟩
    · obtain ⟨its, rv, p', hz⟩ := I1.list hq
      refine call_enumerate_list p'.isList fun h' he hit hsz hk => wpAny_pyIter_enum he ?_
      have I2 : Inv X pins σ H1 { s1 with heap := h' } := I1.kept (t' := s1.toks) hk
      exact ⟨s1.heap.objs.size + 1, [s1.heap.objs.size + 1, s1.heap.objs.size], _, _, H1, rfl, I2, turn_enum a (s1.heap.objs.size + 1) s1.heap.objs.size, ⟨⟨.none, he⟩, hit, Nat.succ_ne_self _⟩, fun b hb => I1.fpOk (two b hb) (I1.hok.fresh (two b hb)), q⟩
    · obtain ⟨its, rv, p', hz⟩ := I1.tuple hq
      refine call_enum1 (begins_tuple a its.toArray) p' fun h' he hit hsz hk => wpAny_pyIter_enum he ?_
      have I2 : Inv X pins σ H1 { s1 with heap := h' } := I1.kept (t' := s1.toks) hk
      have al : a < s1.heap.objs.size := by obtain ⟨_, z, _⟩ := p'; exact Heap.lt_size z
      exact ⟨s1.heap.objs.size + 1, [s1.heap.objs.size + 1, s1.heap.objs.size], _, _, H1, rfl, I2, turn_enumT a (s1.heap.objs.size + 1) s1.heap.objs.size (Nat.ne_of_lt (Nat.lt_succ_of_lt al)) (Nat.ne_of_lt al), ⟨⟨.none, he⟩, ⟨_, hit, rfl, rfl⟩, Nat.succ_ne_self _⟩, fun b hb => I1.fpOk (two b hb) (I1.hok.fresh (two b hb)), q⟩
def wEnumT (t : WE) : WI := fun env b P => t env b fun x b1 => match x with
  | .list xs => P (enumD xs) b1
  | .tuple xs => P (enumD xs) b1
  | .str z => P (enumD (chS z)) b1
  | _ => False
theorem it_enumS {K : PySem.W.Frag} {pn : Pn} {C : Hp → Hp → Prop} {z : Str} : ItOk K pn false C (IteS z) (enumD (chS z)) := fun i F H b o c => by
  have hl : (enumD (chS z)).length = z.cps.size := by simp [enumD, chS]
  refine ⟨fun hi => by rw [hl] at hi; exact hi, fun hi => by rw [hl] at hi; exact hi, fun x H' y hi => ?_⟩
  obtain ⟨T, ch, rfl, nT, rfl, hc⟩ := y
  have e : (chS z)[i]? = some (.str ⟨#[ch]⟩) := by
    unfold chS
    rw [List.getElem?_map, Array.getElem?_toList, hc]
    rfl
  exact ⟨_, _, enumD_at e, .inr ⟨rfl, T, _, _, rfl, rfl, SqT.of upd_same, .cons (.int _) (.one (.str _))⟩, o.new nT, .new o nT⟩
theorem it_enumT {K : PySem.W.Frag} {pn : Pn} {C : Hp → Hp → Prop} {a : Addr} {items : List PyData} (h : ∀ F H b, Ok pn b F H → C F H → ∃ vs, SqT K H a vs ∧ RVs K F vs items) : ItOk K pn false C (IteT K a) (enumD items) := fun i F H b o c => by
  obtain ⟨vs, ha, r⟩ := h F H b o c
  have hl : (enumD items).length = items.length := by simp [enumD]
  refine ⟨fun hi => ?_, fun hi => ⟨vs, ha, by rw [r.len, ← hl]; exact hi⟩, fun x H' y hi => ?_⟩
  · obtain ⟨v, hv, _⟩ := r.at' (List.getElem?_eq_getElem (by rw [← hl]; exact hi))
    exact ⟨vs, v, ha, hv⟩
  · obtain ⟨T, w, rfl, nT, rfl, y1⟩ := y
    have l1 : i < items.length := by rw [← hl]; exact hi
    obtain ⟨v, hv, rv⟩ := r.at' (List.getElem?_eq_getElem l1)
    have e1 := y1 vs ha
    rw [hv] at e1
    cases e1
    exact ⟨_, _, enumD_at (List.getElem?_eq_getElem l1), .inr ⟨rfl, T, _, _, rfl, rfl, SqT.of upd_same, .cons (.int _) (.one (rv.mono (same_new (o.free nT))))⟩, o.new nT, .new o nT⟩
theorem i_enumT {X : Cx} {a : Expr} {t : WE} {p pos tpos : Pos} {elts : List Expr} {kk : Nat} (m : Bool) (hg : Gl X "enumerate") (hm : X.mg "enumerate" = none) (ha : EE X a t) (hs : starEach [a] X.env = [(false, eval a X.env)] := by rfl) :
    PI X (.Tuple elts kk tpos) (.Call (.Name "enumerate" p) [a] [] pos) (lI X.K m false (wEnumT t)) :=
  PI.imp (pi_enumT hg hm (pa_cons ha pa_nil hs) hs) fun σ H R ⟨pn, F, env, b, P, rep, w, k⟩ => by
    refine ⟨pn, F, env, b, _, rep, w, fun v x F1 H1 b1 o1 e1 rv t1 => ?_⟩
    cases rv with
    | lst h r => exact .inl ⟨_, rfl, .inl ⟨_, SqL.of (o1.sub _ _ h), k _ F1 H1 b1 _ o1 e1 (it_enum fun F H b o c => ⟨_, o.sub _ _ (c.same _ _ h), r.mono c.same⟩) t1⟩⟩
    | tup h r => exact .inl ⟨_, rfl, .inr ⟨_, Same.tup o1.sub h.sq, k _ F1 H1 b1 _ o1 e1 (it_enumT fun F H b o c => ⟨_, Same.tup (c.same.trans o.sub) h.sq, r.mono c.same⟩) t1⟩⟩
    | str z => exact .inr ⟨z, rfl, k _ F1 H1 b1 _ o1 e1 it_enumS t1⟩
    | _ => exact t1.elim
theorem m_enumS {ta : WE} {env : En} {n : Nat} {QL : List PyData → Nat → Prop} (h : ME ta env n fun x m => ∃ z, x = .str z ∧ QL (enumD (chS z)) m) : ME (wEnumT ta) env n QL :=
  fun b P hb k => h b _ hb fun x m b1 ⟨xs, e, q⟩ hb1 => by subst e; exact k _ m b1 q hb1
theorem m_enumT {ta : WE} {env : En} {n : Nat} {QL : List PyData → Nat → Prop} (h : ME ta env n fun x m => ∃ xs, (x = .list xs ∨ x = .tuple xs) ∧ QL (enumD xs) m) : ME (wEnumT ta) env n QL :=
  fun b P hb k => h b _ hb fun x m b1 ⟨xs, e, q⟩ hb1 => by rcases e with e | e <;> subst e <;> exact k _ m b1 q hb1
end Pu
namespace Pu
open PySem PySem.Spec PyProof.Rows L2 SeqAt PuS
def revS (z : Str) : Str := ⟨z.cps.toList.reverse.toArray⟩
theorem sliceBy_rev (z : Str) : Txt.sliceBy z none none (-1, 0) = revS z := by
  have h := step_rev_list z 0
  refine PySem.W.str_of_cps ?_
  rw [h]
  unfold revS
  rw [List.toList_toArray]
  refine List.ext_getElem (by simp [Str.length]) fun i h1 h2 => ?_
  rw [List.getElem_map, List.getElem_range, List.getElem_reverse]
  have hz : i < z.cps.size := by simpa using h2
  rw [Array.getElem_toList]
  simp [Array.getD, Str.length]
  rw [dif_pos (by omega)]
def pRevE : P1
  | .list xs, P => P (.list xs.reverse)
  | .tuple xs, P => P (.tuple xs.reverse)
  | .str z, P => z.length ≤ sizeLine ∧ P (.str (revS z))
  | _, _ => False
section
variable {prog : Program} {w : World} {A : Around} {E : Value → Shared → Prop} {s : Shared}
theorem applied_rev {sl : Addr} {vs : Value} {n : Nat} {Q : Int × Int × Nat → Shared → Prop} (hs : s.heap.IsSliceOf sl .none .none vs) (ps : IsPart vs (some (-1)))
    (h : Q ((n : Int) - 1, -1, n) s) : wpAny (model prog w) A (Builtin.Slice.sliceApplied (.ref sl) (pure (n : Int))) Q E s := by
  obtain ⟨os, hos, hcs, hds⟩ := id hs
  unfold Builtin.Slice.sliceApplied Builtin.Slice.sliceFields
  refine wpAny_bind (wpAny_bind (wpAny_field hos hds (x := .none) rfl (wpAny_bind (wpAny_field hos hds (x := .none) rfl (wpAny_bind (wpAny_field hos hds (x := vs) rfl (wpAny_pure ?_)))))))
  refine wpAny_bind (HT.slicePart_ ps ?_)
  show wpAny _ _ (if ((-1 : Int) == 0) = true then _ else _) _ _ s
  rw [if_neg (by decide)]
  refine wpAny_bind (PyProof.Rows.slicePart_none (wpAny_bind (PyProof.Rows.slicePart_none (wpAny_bind (wpAny_pure ?_)))))
  have e1 : Builtin.Slice.sliceAdjust none none (-1) (n : Int) = ((n : Int) - 1, -1) := by
    unfold Builtin.Slice.sliceAdjust
    simp
  have e2 : Builtin.Slice.slicePlaces ((n : Int) - 1) (-1) (-1) = n := by
    unfold Builtin.Slice.slicePlaces
    simp
    omega
  show wpAny _ _ (match Builtin.Slice.sliceAdjust none none (-1) (n : Int) with | (lo, hi) => pure (lo, (-1 : Int), Builtin.Slice.slicePlaces lo hi (-1))) _ _ s
  rw [e1]
  show wpAny _ _ (pure ((n : Int) - 1, (-1 : Int), Builtin.Slice.slicePlaces ((n : Int) - 1) (-1) (-1))) _ _ s
  rw [e2]
  exact wpAny_pure h
theorem fm_congr {α β : Type} (f g : α → Option β) : ∀ (l : List α), (∀ x ∈ l, f x = g x) → l.filterMap f = l.filterMap g
  | [], _ => rfl
  | x :: r, h => by
    rw [List.filterMap_cons, List.filterMap_cons, h x List.mem_cons_self, fm_congr f g r fun y hy => h y (List.mem_cons_of_mem _ hy)]
theorem pick_rev (xs : Array Value) : ((List.range xs.size).filterMap fun (k : Nat) => xs[(((xs.size : Int) - 1) + (k : Int) * (-1)).toNat]?).toArray = xs.toList.reverse.toArray := by
  have e : ∀ l : List Nat, (∀ k ∈ l, k < xs.size) → (l.filterMap fun (k : Nat) => xs[(((xs.size : Int) - 1) + (k : Int) * (-1)).toNat]?) = l.filterMap fun k => xs.toList.reverse[k]? := fun l hl => by
    refine fm_congr _ _ l fun k hk => ?_
    have h1 := hl k hk
    have h2 : (((xs.size : Int) - 1) + (k : Int) * (-1)).toNat = xs.size - 1 - k := by omega
    rw [h2, List.getElem?_reverse (by simpa using h1)]
    simp
  rw [e _ fun k hk => List.mem_range.mp hk]
  have h3 : ∀ (l : List Value), ((List.range l.length).filterMap fun k => l[k]?) = l := fun l => by
    refine List.ext_getElem? fun i => ?_
    have : (List.range l.length).filterMap (fun k => l[k]?) = (List.range l.length).map fun k => l.getD k .none := by
      rw [← List.filterMap_eq_map]
      refine fm_congr _ _ _ fun k hk => ?_
      have := List.mem_range.mp hk
      simp [List.getD, List.getElem?_eq_getElem this]
    rw [this, List.getElem?_map]
    by_cases hi : i < l.length
    · simp [hi, List.getD]
    · simp [hi]
  have := h3 xs.toList.reverse
  rw [List.length_reverse, Array.length_toList] at this
  rw [this]
theorem getItem_tuple_rev {t sl : Addr} {items : Array Value} {vs : Value} {Q : Value → Shared → Prop} (ht : IsTup s.heap t items) (hs : s.heap.IsSliceOf sl .none .none vs) (ps : IsPart vs (some (-1)))
    (h : Q (.ref s.heap.objs.size) { s with heap := s.heap.push { cls := .type "tuple", data := .seq items.toList.reverse.toArray } })
    (hsz : items.size ≤ sizeLine) : wpAny (model prog w) A (getItem (.ref t) (.ref sl)) Q E s := by
  have htake : sizeOk (.seq items.toList.reverse.toArray) := by
    show items.toList.reverse.toArray.size ≤ sizeLine
    simpa using hsz
  obtain ⟨os, hos, hcs, hds⟩ := id hs
  have hTs : s.TypeIs (.ref sl) "slice" := ⟨os, hos, hcs⟩
  unfold getItem
  try with_reducible refine wpAny_holding ?_
  first | refine wpAny_bind (wpAny_pure ?_) | skip
  refine wpAny_bind (wpAny_sequenceKey ht.typeIs (by decide) ?_)
  refine wpAny_bind (wpAny_callSpecial?_slot (name := Str.ofString "__getitem__") ht.typeIs PyProof.Rows.slot_tuple_getitem
    (wpAny_call_entry PyProof.Rows.slot_tuple_getitem ht.typeIs PyProof.Rows.entry_tuple_getitem ?_ (PyProof.Rows.args_tuple_getitem _ _)))
  show wpAny _ _ (Builtin.Tuple.tupleItemsOf (.ref t) >>= _) _ _ s
  refine wpAny_bind (PyProof.Rows.tupleItemsOf_ ht ?_)
  refine wpAny_bind (wpAny_typeOf hTs ?_)
  rw [if_pos (by decide)]
  refine wpAny_bind (applied_rev hs ps ?_)
  have hno : ¬ ((((items.size : Int) - 1) == 0 && (-1 : Int) == 1 && items.size == items.size) = true) := by
    intro q
    rw [Bool.and_eq_true, Bool.and_eq_true] at q
    exact absurd q.1.2 (by decide)
  show wpAny _ _ (if (((items.size : Int) - 1) == 0 && (-1 : Int) == 1 && items.size == items.size) = true then _ else _) _ _ s
  rw [if_neg hno, pick_rev]
  first
    | exact wpAny_bind (m := Builtin.Tuple.tupleExact _) (wpAny_newObj_type (wpAny_pure ⟨_, rfl, wpAny_pure h⟩) htake)
    | exact wpAny_bind (m := Builtin.Tuple.tupleExact _) (wpAny_newObj_type (wpAny_bind (wpAny_pure (wpAny_pure ⟨_, rfl, wpAny_pure h⟩))) htake)
    | exact wpAny_bind (wpAny_bind (m := Builtin.Tuple.tupleExact _) (wpAny_newObj_type (wpAny_pure (wpAny_pure ⟨_, rfl, wpAny_pure h⟩)) htake))
    | exact wpAny_bind (wpAny_bind (m := Builtin.Tuple.tupleExact _) (wpAny_newObj_type (wpAny_pure ⟨_, rfl, wpAny_pure h⟩) htake))
end
def tRevE (K : PySem.W.Frag) (te : TE) : TE := fun σ H Q => te σ H fun x H1 =>
  (∃ a xs, x = .ref a ∧ SqL K H1 a xs ∧ ∀ p, H1 p = none → Q (.ref p) (upd H1 p (.lst xs.reverse))) ∨
  (∃ a xs, x = .ref a ∧ SqT K H1 a xs ∧ NewT H1 Q xs.reverse) ∨
  ∃ z, x = .str z ∧ z.length ≤ sizeLine ∧ Q (.str (revS z)) H1
section
variable {X : Cx} {e : Expr}
theorem pe_revE {te : TE} {k : Nat} {p1 p2 p3 pos : Pos} (he : PE X e te) : PE X (.Subscript e (.Slice none none (some (.UnaryOp .USub (.Constant (.int 1) k p1) p2)) p3) pos) (tRevE X.K te) := by
  refine ⟨fun pins s σ H Q I h => ?_⟩
  refine Subscript_ (thn (he.run pins s σ H _ I h) fun v s1 ⟨x, H1, I1, r1, q1⟩ => ?_)
  have hst : PO X (some (.UnaryOp .USub (.Constant (.int 1) k p1) p2)) (tPart (tUn (rU fun i => .int (-i)) (tC (.int 1)))) := po_some (pe_un un_neg pe_int)
  refine wpAny_Slice (thn (po_none.run pins s1 σ H1 (fun o H2 => o = none ∧ H2 = H1) I1 ⟨rfl, rfl⟩) fun vl s2 ⟨l, H2, I2, pl, el, e2⟩ => ?_)
  subst el e2
  refine thn (po_none.run pins s2 σ H2 (fun o H3 => o = none ∧ H3 = H2) I2 ⟨rfl, rfl⟩) fun vu s3 ⟨u, H3, I3, pu, eu, e3⟩ => ?_
  subst eu e3
  refine thn (hst.run pins s3 σ H3 (fun o H4 => o = some (-1) ∧ H4 = H3) I3 ⟨1, rfl, -1, rfl, rfl, rfl⟩) fun vs s4 ⟨o, H4, I4, ps, eo, e4⟩ => ?_
  subst eo e4
  have I5 : Inv X pins σ H4 { s4 with heap := s4.heap.push { cls := .type "slice", data := .fields #[vl, vu, vs] } } := I4.kept (t' := s4.toks) fun b ob q => Heap.get?_push_of_some _ q
  have vl0 : vl = .none := by
    obtain ⟨l', e1, e2⟩ := IsPart.raw pl
    cases l' with
    | none => exact e1
    | some q => cases e2
  have vu0 : vu = .none := by
    obtain ⟨l', e1, e2⟩ := IsPart.raw pu
    cases l' with
    | none => exact e1
    | some q => cases e2
  show wpAny (model X.prog X.w) X.A (subscriptTail e (.Slice none none (some (.UnaryOp .USub (.Constant (.int 1) k p1) p2)) p3) v (.ref s4.heap.objs.size)) (EP X pins σ Q) X.xe { s4 with heap := s4.heap.push { cls := .type "slice", data := .fields #[vl, vu, vs] } }
  rcases q1 with ⟨a, xs, ex, hx, q⟩ | ⟨a, xs, ex, hx, q⟩ | ⟨z, ex, hz, q⟩
  · subst ex
    cases r1
    obtain ⟨its, r, ht, hz⟩ := I5.list hx
    have hlen := r.length
    refine tail_any (ops := [.ref a, .ref s4.heap.objs.size]) ht.isList.typeIs (PySem.slot_list_getitem.lookup) ?_ (by with_unfolding_all rfl)
    refine wpAny_getItem_list_slice ht.isList (Heap.IsSliceOf.new _ vl vu vs) pl pu ps (by decide) ?_ (by rw [List.size_toArray]; omega)
    rw [PySem.W.krv_pick]
    refine ⟨.ref _, _, I5.laid (t' := s4.toks) (o := .lst xs.reverse) (fun b ob q => Heap.get?_push_of_some _ q) (Nat.le_refl _) ?_, rfl, q _ (I5.hok.fresh (Nat.le_refl _))⟩
    exact ⟨by rw [List.length_reverse]; exact hz, _, 0, r.reverse, Heap.get?_push_size _ rfl⟩
  · subst ex
    cases r1
    obtain ⟨its, r, ht, hz⟩ := I5.tuple hx
    have hlen := r.length
    have hsl : (s4.heap.push { cls := .type "slice", data := .fields #[vl, vu, vs] }).IsSliceOf s4.heap.objs.size .none .none vs := by
      have := Heap.IsSliceOf.new s4.heap vl vu vs
      rw [vl0, vu0] at this ⊢
      exact this
    refine tail_any (ops := [.ref a, .ref s4.heap.objs.size]) ht.typeIs PyProof.Rows.slot_tuple_getitem.lookup ?_ (by with_unfolding_all rfl)
    refine getItem_tuple_rev ht hsl ps ?_ (by rw [List.size_toArray]; omega)
    exact ⟨.ref _, _, laidT I5 r.reverse (by rw [List.length_reverse]; exact hz), rfl, newT I5 q⟩
  · subst ex
    obtain ⟨t, rfl⟩ := r1
    obtain ⟨l1, e1, e2⟩ := IsPart.raw ps
    obtain ⟨os, hos, hcs, hds⟩ := Heap.IsSliceOf.new s4.heap vl vu vs
    cases l1 with
    | none => cases e2
    | some pr =>
      obtain ⟨j, tj⟩ := pr
      have ej : j = -1 := by cases e2; rfl
      subst ej
      refine tail_any (ops := [.str z t, .ref s4.heap.objs.size]) (typeIs_str _ _ _) F.slot_str_getitem.lookup ?_ (by with_unfolding_all rfl)
      refine wpAny_getItem_str_slice (l := none) (u := none) (st := some (-1, tj)) ⟨os, hos, hcs, by rw [hds, vl0, vu0, e1]; rfl⟩ rfl ?_
      have hs : Txt.sliceBy z none none (-1, tj) = revS z := by
        rw [← sliceBy_rev]
        rfl
      have hl : (revS z).length ≤ sizeLine := by
        have : (revS z).length = z.length := by simp [revS, Str.length]
        omega
      have no : ¬ ((((some ((-1 : Int), tj)).map (·.1)).getD 1 == 1 && ((slicePicked z none none (some (-1, tj))).length == z.length)) = true) := by
        intro q
        rw [Bool.and_eq_true] at q
        exact absurd (show ((-1 : Int) == 1) = true from q.1) (by decide)
      unfold sliceMade
      rw [if_neg no]
      unfold Txt.sliceBy at hs
      rw [if_neg no] at hs
      rw [hs]
      exact ⟨hl, .str _, H4, I5.tok _, ⟨_, rfl⟩, q⟩
theorem e_rev {te : WE} {k : Nat} {p1 p2 p3 pos : Pos} (he : EB X e te) : EE X (.Subscript e (.Slice none none (some (.UnaryOp .USub (.Constant (.int 1) k p1) p2)) p3) pos) (w1 pRevE te) :=
  PE.imp (pe_revE he) fun σ H Q ⟨pn, F, env, b, P, rep, t, k⟩ => by
    refine ⟨pn, F, env, b, _, rep, t, fun v x F1 H1 b1 o1 e1 bv t1 => ?_⟩
    have go : Go X.K pn b1 F1 H1 (fun z => P z b1) Q := fun w z F' H' o4 e4 rv q => k w z F' H' b1 o4 (e1.trans e4) rv q
    match x, t1 with
    | .list xs, q =>
      obtain ⟨a, vs, rfl, h1, r1⟩ := bv.list o1
      exact .inl ⟨a, vs, rfl, SqL.of h1, go.lst o1 r1.rev q⟩
    | .tuple xs, q =>
      obtain ⟨a, vs, rfl, h1, r1⟩ := bv.tup o1
      exact .inr (.inl ⟨a, vs, rfl, h1, go.tup o1 r1.rev q⟩)
    | .str z, ⟨hl, q⟩ => exact .inr (.inr ⟨z, bv.str, hl, k _ _ F1 H1 b1 o1 e1 (.str _) q⟩)
end
def eRevE : PyData → Option PyData
  | .list xs => some (.list xs.reverse)
  | .tuple xs => some (.tuple xs.reverse)
  | .str z => if z.length ≤ sizeLine then some (.str (revS z)) else none
  | _ => none
theorem h1_revE : H1 pRevE eRevE := fun x P r q k => by
  cases x <;> first | (cases q; exact k) | (obtain ⟨c, e⟩ := ite_some q; subst e; exact ⟨c, k⟩) | cases q
end Pu
namespace Pu
open PySem PySem.Spec PyProof.Rows L2 SeqAt PuS
def tx (l : List Nat) : Str := ⟨l.toArray⟩
def Ls (z : Str) : List Nat := z.cps.toList
abbrev sg (c : Nat) : PyData := .str ⟨#[c]⟩
theorem Ls_tx (l : List Nat) : Ls (tx l) = l := by simp [tx, Ls]
theorem str_inj {x y : Str} (h : Ls x = Ls y) : x = y := PySem.W.str_of_cps h
theorem len_Ls (z : Str) : z.length = (Ls z).length := by simp [Ls, Str.length]
theorem seq_str (z : Str) : seqOf (.str z) = some ((Ls z).map sg) := rfl
theorem chS_eq (z : Str) : chS z = (Ls z).map sg := rfl
def isS (s : Str) : PyData → Bool
  | .str w => decide (w = s)
  | _ => false
def isOf (ws : List Str) (x : PyData) : Bool := ws.any fun s => isS s x
theorem beq_dec (x y : Str) : (x == y) = decide (x = y) := rfl
theorem eqv_str (x : PyData) (s : Str) : PyData.eqv x (.str s) = isS s x := by cases x <;> simp [PyData.eqv, isS, beq_dec]
theorem eqv_strL (x : PyData) (s : Str) : PyData.eqv (.str s) x = isS s x := by cases x <;> simp [PyData.eqv, isS, beq_dec, eq_comm]
theorem eq_str (x : PyData) (s : Str) : eEq x (.str s) = some (.bool (isS s x)) := by
  unfold eEq
  rw [if_pos (by simp [dfree, PyData.depth]), eqv_str]
theorem dfree_strs : ∀ ws : List Str, dfreeAll (ws.map .str) = true
  | [] => rfl
  | w :: ws => by simp [dfreeAll, dfree, dfree_strs ws]
theorem depth_strs : ∀ ws : List Str, PyData.depthAll (ws.map .str) = 0
  | [] => rfl
  | w :: ws => by simp [PyData.depthAll, PyData.depth, depth_strs ws]
theorem any_strs (x : PyData) : ∀ ws : List Str, ((ws.map PyData.str).any fun z => PyData.eqv z x) = isOf ws x
  | [] => rfl
  | w :: ws => by
    have := any_strs x ws
    simp only [List.map_cons, List.any_cons, isOf] at this ⊢
    rw [this, eqv_strL]
theorem inL_strs {neg : Bool} {x y : PyData} {ws : List Str} (h : itemsD y = some (ws.map .str)) : eInL neg x y = some (.bool (neg ^^ isOf ws x)) := by
  unfold eInL
  rw [h]
  show (if _ then _ else _) = _
  rw [if_pos (by simp [dfree_strs, depth_strs]), any_strs]
theorem in_tup {neg : Bool} (ws : List Str) (x : PyData) : eIn neg x (.tuple (ws.map .str)) = some (.bool (neg ^^ isOf ws x)) := by
  have e : eIn neg x (.tuple (ws.map .str)) = eInL neg x (.tuple (ws.map .str)) := by cases x <;> rfl
  rw [e, inL_strs rfl]
theorem in_lst {neg : Bool} (ws : List Str) (x : PyData) : eIn neg x (.list (ws.map .str)) = some (.bool (neg ^^ isOf ws x)) := by
  have e : eIn neg x (.list (ws.map .str)) = eInL neg x (.list (ws.map .str)) := by cases x <;> rfl
  rw [e, inL_strs rfl]
theorem in_sg {neg : Bool} (c : Nat) (z : Str) : eIn neg (sg c) (.str z) = some (.bool (neg ^^ decide (c ∈ Ls z))) := by
  show some (PyData.bool (neg ^^ !(Builtin.Str.occurrences z ⟨#[c]⟩ 0 z.length 1).isEmpty)) = _
  rw [StrLaws.found_one]
  rfl
def oneIn (K : List Nat) (w : Str) : Bool := match Ls w with
  | [c] => decide (c ∈ K)
  | _ => false
theorem one_eq {w : Str} {c : Nat} : w = (⟨#[c]⟩ : Str) ↔ Ls w = [c] := ⟨fun h => by subst h; rfl, fun h => str_inj (by rw [h]; rfl)⟩
theorem oneIn_true {K : List Nat} {w : Str} : oneIn K w = true ↔ ∃ c, w = ⟨#[c]⟩ ∧ c ∈ K := by
  unfold oneIn
  constructor
  · intro h
    split at h
    · rename_i c e; exact ⟨c, one_eq.mpr e, of_decide_eq_true h⟩
    · cases h
  · rintro ⟨c, e, h⟩
    rw [one_eq] at e
    rw [e]
    simpa using h
theorem isOf_one (K : List Nat) (w : Str) : isOf (K.map fun c => (⟨#[c]⟩ : Str)) (.str w) = oneIn K w := by
  rw [Bool.eq_iff_iff, oneIn_true]
  simp [isOf, isS]
  constructor
  · rintro ⟨c, h, e⟩; exact ⟨c, e, h⟩
  · rintro ⟨c, e, h⟩; exact ⟨c, h, e⟩
theorem map_sg (K : List Nat) : K.map sg = (K.map fun c => (⟨#[c]⟩ : Str)).map .str := by simp
theorem in_chs {neg : Bool} (K : List Nat) (w : Str) : eIn neg (.str w) (.list (K.map sg)) = some (.bool (neg ^^ oneIn K w)) := by
  rw [map_sg, in_lst, isOf_one]
theorem oneIn_sg (K : List Nat) (c : Nat) : oneIn K ⟨#[c]⟩ = decide (c ∈ K) := rfl
theorem len_str {z : Str} (h : (Ls z).length ≤ 1000) : eLen (.str z) = some (.int (Ls z).length) := by
  show (if z.length ≤ sizeLine then some (PyData.int z.length) else none) = _
  rw [len_Ls, if_pos (by rw [sizeLine_eq]; omega)]
theorem tru_str {z : Str} (h : (Ls z).length ≤ 1000) : eTru (.str z) = some (!(Ls z).isEmpty) := by
  show (if z.length ≤ sizeLine then some ((z.length : Int) != 0) else none) = _
  rw [len_Ls, if_pos (by rw [sizeLine_eq]; omega)]
  cases Ls z with
  | nil => rfl
  | cons c r => simp; omega
theorem strsOf_map : ∀ ws : List Str, strsOf (ws.map .str) = some ws
  | [] => rfl
  | w :: ws => by simp [strsOf, strsOf_map ws]
theorem joinL_ones : ∀ l : List Nat, TL.joinL [] (l.map fun c => [c]) = l
  | [] => rfl
  | [c] => rfl
  | c :: d :: r => by
    have := joinL_ones (d :: r)
    simp only [List.map_cons] at this ⊢
    show [c] ++ ([] ++ TL.joinL [] ([d] :: r.map fun c => [c])) = _
    rw [this]
    rfl
theorem sum_ones : ∀ l : List Nat, ((l.map fun c => (⟨#[c]⟩ : Str)).map (·.length)).sum = l.length
  | [] => rfl
  | c :: l => by
    have := sum_ones l
    simp only [List.map_cons, List.sum_cons, List.length_cons, this]
    show 1 + l.length = _
    omega
theorem join_sg {l : List Nat} (h : l.length ≤ 1000) : eJoin "" (.list (l.map sg)) = some (.str (tx l)) := by
  rw [map_sg]
  show ((strsOf (List.map PyData.str _)).bind _) = _
  rw [strsOf_map]
  have e0 : (Str.ofString "").length = 0 := rfl
  have e : Txt.join "" (l.map fun c => (⟨#[c]⟩ : Str)) = tx l := by
    refine str_inj ?_
    rw [TL.join_eq]
    show TL.tl _ = _
    rw [TL.tl_join, Ls_tx]
    have : (l.map fun c => (⟨#[c]⟩ : Str)).map TL.tl = l.map fun c => [c] := by simp [TL.tl]
    rw [this]
    exact joinL_ones l
  show (if _ then _ else _) = _
  rw [if_pos (by rw [sum_ones, e0]; omega), e]
theorem bools_map {α : Type} (f : α → Bool) : ∀ xs : List α, boolsOf (xs.map fun x => .bool (f x)) = some (xs.map f)
  | [] => rfl
  | x :: xs => by simp [boolsOf, bools_map f xs]
theorem all_map {α : Type} (f : α → Bool) (xs : List α) : eAll (.list (xs.map fun x => .bool (f x))) = some (.bool (xs.all f)) := by
  show (boolsOf _).map _ = _
  rw [bools_map]
  simp
theorem snoc_ind {α : Type} {P : List α → Prop} (h0 : P []) (h1 : ∀ l k, P l → P (l ++ [k])) (l : List α) : P l := by
  have : ∀ r : List α, P r.reverse := fun r => by
    induction r with
    | nil => exact h0
    | cons x r ih => rw [List.reverse_cons]; exact h1 _ _ ih
  have := this l.reverse
  rwa [List.reverse_reverse] at this
theorem mem_distA {κ : Type} [DecidableEq κ] (l : List κ) : ∀ x : κ, x ∈ dist l ↔ x ∈ l := by
  induction l using snoc_ind with
  | h0 => simp [dist]
  | h1 l k ih =>
    intro x
    rw [dist_snoc]
    unfold dstep
    split
    · rename_i h
      rw [ih] at h
      rw [ih]
      simp
      intro e
      subst e
      exact h
    · simp [ih]
theorem mem_dist {κ : Type} [DecidableEq κ] {x : κ} (l : List κ) : x ∈ dist l ↔ x ∈ l := mem_distA l x
theorem dist_nodup {κ : Type} [DecidableEq κ] (l : List κ) : (dist l).length = l.length ↔ l.Nodup := by
  induction l using snoc_ind with
  | h0 => simp [dist]
  | h1 l k ih =>
    rw [dist_snoc]
    have h1 := dist_len l
    unfold dstep
    split
    · rename_i h
      rw [mem_dist] at h
      rw [List.length_append]
      constructor
      · intro e; simp at e; omega
      · intro nd
        rw [List.nodup_append] at nd
        exact absurd rfl (nd.2.2 k h k (by simp))
    · rename_i h
      rw [mem_dist] at h
      rw [List.length_append, List.length_append]
      constructor
      · intro e
        have := ih.mp (by simpa using e)
        rw [List.nodup_append]
        exact ⟨this, by simp, fun a ha b hb => by simp at hb; subst hb; intro e; subst e; exact h ha⟩
      · intro nd
        rw [List.nodup_append] at nd
        have := ih.mpr nd.1
        simp [this]
theorem ofStr_eq (z : Str) : ofStr z = (Ls z).map fun c => (Sum.inr (⟨#[c]⟩ : Str) : Key) := rfl
theorem nodup_ofStr (z : Str) : (ofStr z).Nodup ↔ (Ls z).Nodup := by
  rw [ofStr_eq]
  show List.Pairwise _ _ ↔ List.Pairwise _ _
  rw [List.pairwise_map]
  simp
/-- len(set(z)) == len(z) -/
theorem nodup_eq (z : Str) : eEq (.int (dist (ofStr z)).length) (.int (Ls z).length) = some (.bool (decide (Ls z).Nodup)) := by
  show some (PyData.bool (((dist (ofStr z)).length : Int) == ((Ls z).length : Int))) = _
  refine congrArg (fun b => some (PyData.bool b)) ?_
  rw [Bool.eq_iff_iff]
  simp
  rw [← nodup_ofStr, ← dist_nodup (ofStr z), ofStr_eq, List.length_map]
  omega
theorem one_lt {a b : Nat} : sLt (⟨#[a]⟩ : Str) ⟨#[b]⟩ ↔ a < b := by
  show [a] < [b] ↔ _
  rw [List.cons_lt_cons_iff]
  simp
theorem asc_of : ∀ {l : List Str}, l.Pairwise sLt → asc l = l
  | [], _ => rfl
  | x :: r, h => by
    obtain ⟨h1, h2⟩ := List.pairwise_cons.mp h
    show insS x (asc r) = _
    rw [asc_of h2]
    cases r with
    | nil => rfl
    | cons y r =>
      have hl := h1 y List.mem_cons_self
      unfold insS
      rw [if_neg (fun e => sLt_irrefl y (by rw [e] at hl; exact hl)), if_pos hl]
theorem asc_ones (l : List Nat) : (l.map fun c => (⟨#[c]⟩ : Str)) = asc (l.map fun c => (⟨#[c]⟩ : Str)) ↔ l.Pairwise (· < ·) := by
  have e : (l.map fun c => (⟨#[c]⟩ : Str)).Pairwise sLt ↔ l.Pairwise (· < ·) := by
    rw [List.pairwise_map]
    exact ⟨fun h => h.imp fun {a b} q => one_lt.mp q, fun h => h.imp fun {a b} q => one_lt.mpr q⟩
  rw [← e]
  exact ⟨fun h => by rw [h]; exact asc_asc _, fun h => (asc_of h).symm⟩
theorem eqv_strs : ∀ as bs : List Str, PyData.eqvAll (as.map .str) (bs.map .str) = decide (as = bs)
  | [], [] => rfl
  | [], _ :: _ => rfl
  | _ :: _, [] => rfl
  | a :: as, b :: bs => by
    simp only [List.map_cons, PyData.eqvAll, PyData.eqv, eqv_strs as bs, beq_dec]
    rw [Bool.eq_iff_iff]
    simp
theorem eq_strs (as bs : List Str) : eEq (.list (as.map .str)) (.list (bs.map .str)) = some (.bool (decide (as = bs))) := by
  unfold eEq
  rw [if_pos (by simp [dfree, dfree_strs, PyData.depth, depth_strs])]
  simp only [PyData.eqv, eqv_strs]
/-- list(z) == sorted(set(z)) -/
theorem sorted_eq (z : Str) : eEq (.list ((Ls z).map sg)) (.list ((asc ((Ls z).map fun c => (⟨#[c]⟩ : Str))).map .str)) = some (.bool (decide ((Ls z).Pairwise (· < ·)))) := by
  rw [map_sg, eq_strs]
  refine congrArg (fun b => some (PyData.bool b)) ?_
  rw [Bool.eq_iff_iff]
  simp [asc_ones]
theorem eq_nilL (xs : List PyData) : eEq (.list xs) (.list []) = some (.bool xs.isEmpty) := by
  unfold eEq
  rw [if_pos (by simp [dfree, dfreeAll, PyData.depth, PyData.depthAll]; try omega)]
  cases xs <;> simp [PyData.eqv, PyData.eqvAll]
def isT0 : PyData → Bool
  | .tuple [] => true
  | _ => false
theorem eq_tup0 (x : PyData) : eEq x (.tuple []) = some (.bool (isT0 x)) := by
  unfold eEq
  rw [if_pos (by simp [dfree, dfreeAll, PyData.depth, PyData.depthAll]; try omega)]
  cases x with
  | tuple xs => cases xs <;> simp [PyData.eqv, PyData.eqvAll, isT0]
  | _ => simp [PyData.eqv, isT0]
theorem shaped_str {z : Str} (h : PyData.strOk z = true) : SeqAt.shaped (.str z) = true := by simp [SeqAt.shaped, PyData.canLay0, PyData.depth, h]
theorem canLay_strs : ∀ {ws : List Str}, (∀ w ∈ ws, PyData.strOk w = true) → PyData.canLayAll0 (ws.map .str) = true
  | [], _ => rfl
  | w :: ws, h => by simp [PyData.canLayAll0, PyData.canLay0, h w List.mem_cons_self, canLay_strs fun v hv => h v (List.mem_cons_of_mem _ hv)]
theorem ok_ones {l : List Nat} (h : ∀ c ∈ l, c < 0x110000) : ∀ w ∈ l.map fun c => (⟨#[c]⟩ : Str), PyData.strOk w = true := fun w hw => by
  obtain ⟨c, hc, e⟩ := List.mem_map.mp hw
  subst e
  simp [PyData.strOk]
  exact h c hc
theorem ne_nilL {l : List Nat} (h : ∀ c ∈ l, c < 0x110000) : eNe (.list (l.map sg)) (.list []) = some (.bool (!l.isEmpty)) := by
  unfold eNe
  have s1 : SeqAt.shaped (.list (l.map sg)) = true := by
    have a := canLay_strs (ok_ones h)
    have b := depth_strs (l.map fun c => (⟨#[c]⟩ : Str))
    rw [← map_sg] at a b
    simp only [SeqAt.shaped, PyData.canLay0, PyData.depth, a, b]
    rfl
  rw [if_pos (by rw [s1]; rfl)]
  cases l <;> simp [PyData.eqv, PyData.eqvAll]
theorem cut_to (l : List Nat) (k : Nat) (h : k ≤ l.length) : cutS (tx l) none (some (k : Int)) = tx (l.take k) := by
  unfold cutS
  have e : (tx l).length = l.length := by simp [tx, Str.length]
  rw [HT.sIx_none, HT.sIx_nat, e, Nat.min_eq_left h]
  simp [tx]
theorem cut_from (l : List Nat) (k : Nat) (h : k ≤ l.length) : cutS (tx l) (some (k : Int)) none = tx (l.drop k) := by
  unfold cutS
  have e : (tx l).length = l.length := by simp [tx, Str.length]
  rw [HT.sIx_none, HT.sIx_nat, e, Nat.min_eq_left h]
  simp only [tx, List.toList_toArray]
  rw [List.take_of_length_le (by rw [List.length_drop]; exact Nat.le_refl _)]
theorem cutD_to (l : List PyData) (k : Nat) : cutD l none (some (k : Int)) = l.take k := by
  unfold cutD
  rw [HT.sIx_none, HT.sIx_nat]
  by_cases h : k ≤ l.length
  · rw [Nat.min_eq_left h]; simp
  · rw [Nat.min_eq_right (by omega)]
    simp
    rw [List.take_of_length_le (by omega)]
theorem cutD_from (l : List PyData) (k : Nat) : cutD l (some (k : Int)) none = l.drop k := by
  unfold cutD
  rw [HT.sIx_none, HT.sIx_nat]
  by_cases h : k ≤ l.length
  · rw [Nat.min_eq_left h, List.take_of_length_le (by rw [List.length_drop]; exact Nat.le_refl _)]
  · rw [Nat.min_eq_right (by omega)]
    simp
    omega
end Pu
namespace Pu
open PySem PySem.Spec PyProof.Rows L2 SeqAt PuS
theorem eq_int (i j : Int) : eEq (.int i) (.int j) = some (.bool (decide (i = j))) := by
  have : (i == j) = decide (i = j) := by rw [Bool.eq_iff_iff]; simp
  show some (PyData.bool (i == j)) = _
  rw [this]
theorem ne_int (i j : Int) : eNe (.int i) (.int j) = some (.bool (!decide (i = j))) := by
  have : (i == j) = decide (i = j) := by rw [Bool.eq_iff_iff]; simp
  show some (PyData.bool (!(i == j))) = _
  rw [this]
def okS (z : Str) : Prop := (Ls z).length ≤ 1000 ∧ ∀ c ∈ Ls z, c < 0x110000
mutual
def okR : PyData → Prop
  | .str z => okS z
  | .list xs => okRs xs
  | .tuple xs => okRs xs
  | _ => True
def okRs : List PyData → Prop
  | [] => True
  | x :: xs => okR x ∧ okRs xs
end
theorem okS_str {z : Str} (h : okS z) : PyData.strOk z = true := by
  unfold PyData.strOk
  rw [Array.all_eq_true']
  intro c hc
  simpa using h.2 c (by unfold Ls; simpa using hc)
theorem nodup_len : ∀ {l K : List Nat}, l.Nodup → (∀ c ∈ l, c ∈ K) → l.length ≤ K.length
  | [], _, _, _ => Nat.zero_le _
  | c :: r, K, nd, h => by
    obtain ⟨h1, h2⟩ := List.nodup_cons.mp nd
    have hc := h c List.mem_cons_self
    have ih := nodup_len (l := r) (K := K.erase c) h2 fun d hd => by
      have ne : d ≠ c := fun e => h1 (e ▸ hd)
      exact (List.mem_erase_of_ne ne).mpr (h d (List.mem_cons_of_mem _ hd))
    rw [List.length_erase_of_mem hc] at ih
    have : 0 < K.length := List.length_pos_of_mem hc
    simp only [List.length_cons]
    omega
theorem asc_nodup {l : List Nat} (h : l.Pairwise (· < ·)) : l.Nodup := h.imp fun {a b} q => Nat.ne_of_lt q
end Pu
namespace Pu
open PySem PySem.Spec PyProof.Rows L2 SeqAt PuS
theorem ix_t0 (a : PyData) (r : List PyData) : eIx (.tuple (a :: r)) (.int 0) = some a := atI_nat (j := 0) (xs := a :: r) rfl
theorem ix_t1 (a b : PyData) (r : List PyData) : eIx (.tuple (a :: b :: r)) (.int 1) = some b := atI_nat (j := 1) (xs := a :: b :: r) rfl
theorem ix_t2 (a b c : PyData) (r : List PyData) : eIx (.tuple (a :: b :: c :: r)) (.int 2) = some c := atI_nat (j := 2) (xs := a :: b :: c :: r) rfl
end Pu
namespace Pu
open PySem PySem.Spec PyProof.Rows L2 SeqAt PuS
theorem add_str {s t : Str} (h : (Ls s).length + (Ls t).length ≤ 100000) : eAdd (.str s) (.str t) = some (.str (tx (Ls s ++ Ls t))) := by
  show (if s.length + t.length ≤ sizeLine then some (PyData.str (s ++ t)) else none) = _
  rw [if_pos (by rw [len_Ls, len_Ls, sizeLine_eq]; omega)]
  have : s ++ t = tx (Ls s ++ Ls t) := str_inj (by rw [Ls_tx]; exact TL.tl_append s t)
  rw [this]
theorem sl_to {l : List Nat} {k : Nat} (h : l.length ≤ 1000) (hk : k ≤ l.length) : eSl none (some (k : Int)) (.str (tx l)) = some (.str (tx (l.take k))) := by
  show (if (tx l).length ≤ sizeLine then some (PyData.str (cutS (tx l) none (some (k : Int)))) else none) = _
  rw [if_pos (by rw [len_Ls, Ls_tx, sizeLine_eq]; omega), cut_to l k hk]
theorem sl_from {l : List Nat} {k : Nat} (h : l.length ≤ 1000) (hk : k ≤ l.length) : eSl (some (k : Int)) none (.str (tx l)) = some (.str (tx (l.drop k))) := by
  show (if (tx l).length ≤ sizeLine then some (PyData.str (cutS (tx l) (some (k : Int)) none)) else none) = _
  rw [if_pos (by rw [len_Ls, Ls_tx, sizeLine_eq]; omega), cut_from l k hk]
theorem add_tup {xs ys : List PyData} (h : xs.length + ys.length ≤ 100000) : eAdd (.tuple xs) (.tuple ys) = some (.tuple (xs ++ ys)) := if_pos (by rw [sizeLine_eq]; omega)
theorem add_lst {xs ys : List PyData} (h : xs.length + ys.length ≤ 100000) : eAdd (.list xs) (.list ys) = some (.list (xs ++ ys)) := if_pos (by rw [sizeLine_eq]; omega)
theorem slT_to (xs : List PyData) (k : Nat) : eSl none (some (k : Int)) (.tuple xs) = some (.tuple (xs.take k)) := by
  show some (PyData.tuple (cutD xs none (some (k : Int)))) = _
  rw [cutD_to]
theorem slT_from (xs : List PyData) (k : Nat) : eSl (some (k : Int)) none (.tuple xs) = some (.tuple (xs.drop k)) := by
  show some (PyData.tuple (cutD xs (some (k : Int)) none)) = _
  rw [cutD_from]
theorem mul_def (xs : List PyData) (k : Int) : eMul (.list xs) (.int k) = if -(2 ^ 63) ≤ k ∧ k < 2 ^ 63 ∧ xs.length * k.toNat ≤ sizeLine then some (.list (List.replicate k.toNat xs).flatten) else none := rfl
theorem mul_nat {xs : List PyData} (k : Nat) (h : xs.length * k ≤ 100000) (hk : k ≤ 1000) : eMul (.list xs) (.int (k : Int)) = some (.list (List.replicate k xs).flatten) := by
  have z := sizeLine_eq
  rw [mul_def, if_pos ⟨by omega, by omega, by rw [Int.toNat_natCast]; omega⟩, Int.toNat_natCast]
/-- x * int(test) -/
theorem mul_tst {xs : List PyData} (c : Bool) (h : xs.length ≤ 100000) : eMul (.list xs) (.int (if c then 1 else 0)) = some (.list (if c then xs else [])) := by
  cases c with
  | false =>
    have := mul_nat (xs := xs) 0 (by omega) (by omega)
    exact this
  | true =>
    have := mul_nat (xs := xs) 1 (by omega) (by omega)
    rw [show (List.replicate 1 xs).flatten = xs by simp] at this
    exact this
theorem replL_one (c : Nat) : ∀ l : List Nat, StrLaws.replL [c] [] l = l.filter fun d => decide (d ≠ c)
  | [] => StrLaws.replL_nil
  | d :: r => by
    by_cases e : d = c
    · subst e
      rw [StrLaws.replL_hit (by simp) (by simp)]
      show [] ++ StrLaws.replL [d] [] r = _
      rw [replL_one d r, List.filter_cons]
      simp
    · rw [StrLaws.replL_miss (by simpa using e), replL_one c r, List.filter_cons]
      simp [e]
theorem replace_one (z : Str) (c : Nat) : Txt.replace z ⟨#[c]⟩ Str.empty = tx ((Ls z).filter fun d => decide (d ≠ c)) := by
  refine str_inj ?_
  rw [Ls_tx]
  show (Txt.replace z ⟨#[c]⟩ Str.empty).cps.toList = _
  rw [StrLaws.replace_list (by show 1 ≤ 1; omega)]
  exact replL_one c (Ls z)
theorem n_pick {ic ip ir il : Nat} {wt wg : WD} {u : WS} {env : En} {n : Nat} {N : En → Nat → Prop} {R : PyData → Nat → Prop} {B C : En → Nat → Prop} {z : Str} (hc : env[ic]? = some (some (.d (.str z)))) (hp : env[ip]? = some (some .p)) (hl : (Ls z).length ≤ 1000)
    (h : MD wt [.p, .d (.int (Ls z).length)] n fun y m => ∃ i c, y = .int i ∧ atI (Ls z) i = some c ∧ MD wg [.p, .d (.str (tx ((Ls z).filter fun d => decide (d ≠ c))))] m fun d m2 => MS u ((env.set ir (some (.d (sg c)))).set il (some (.d d))) m2 N R B C) :
    MS (sPick ic ip ir il wt wg u) env n N R B C := fun PD b hb kn kr kb kc => by
  unfold sPick
  rw [hc, hp]
  refine ⟨by rw [len_Ls]; omega, ?_⟩
  rw [len_Ls]
  refine h b _ hb fun y m b1 ⟨i, c, ey, hat, hg⟩ hb1 => ?_
  subst ey
  show (match atI (Ls z) i with | some c => _ | none => False)
  rw [hat]
  show wg [.p, .d (.str (Txt.replace z ⟨#[c]⟩ Str.empty))] b1 _
  rw [replace_one]
  exact hg b1 _ hb1 fun d m2 b2 q hb2 => q PD b2 hb2 kn kr kb kc
end Pu
namespace Pu
open PySem PySem.Spec PyProof.Rows L2 SeqAt PuS
abbrev Rule : Type := List Nat × Nat
def ruD (p : Rule) : PyData := .tuple [.str (tx p.1), sg p.2]
def keD (k : List Nat) : PyData := .str (tx k)
def schD (K : List Nat) (rules : List Rule) (keys : List (List Nat)) : PyData := .tuple [.str (tx K), .tuple (rules.map ruD), .tuple (keys.map keD)]
structure ColsOk (K : List Nat) : Prop where
  asc : K.Pairwise (· < ·)
  few : K.length ≤ 5
  some : K ≠ []
  low : ∀ c ∈ K, c < 128
structure RulesOk (K : List Nat) (rules : List Rule) : Prop where
  one : ∀ p ∈ rules, p.1.Sublist K ∧ p.2 ∈ K ∧ p.2 ∉ p.1
  nodup : rules.Nodup
  few : rules.length ≤ 6
structure KeysOk (K : List Nat) (keys : List (List Nat)) : Prop where
  one : ∀ k ∈ keys, k.Sublist K ∧ k ≠ []
  nodup : keys.Nodup
  few : keys.length ≤ 2
theorem tx_inj {a b : List Nat} (h : tx a = tx b) : a = b := by
  have := congrArg Ls h
  rwa [Ls_tx, Ls_tx] at this
theorem sg_inj {a b : Nat} (h : (⟨#[a]⟩ : Str) = ⟨#[b]⟩) : a = b := by
  have := congrArg Ls h
  have : [a] = [b] := this
  exact List.head_eq_of_cons_eq this
theorem eqv_ru (p q : Rule) : PyData.eqv (ruD p) (ruD q) = decide (p = q) := by
  obtain ⟨a, b⟩ := p
  obtain ⟨c, d⟩ := q
  rw [Bool.eq_iff_iff, decide_eq_true_eq]
  show (decide (tx a = tx c) && (decide ((⟨#[b]⟩ : Str) = ⟨#[d]⟩) && true)) = true ↔ _
  rw [Bool.and_true, Bool.and_eq_true, decide_eq_true_eq, decide_eq_true_eq]
  constructor
  · rintro ⟨h1, h2⟩; rw [tx_inj h1, sg_inj h2]
  · intro h; cases h; exact ⟨rfl, rfl⟩
theorem dfree_ru : ∀ rules : List Rule, dfreeAll (rules.map ruD) = true
  | [] => rfl
  | p :: r => by simp [dfreeAll, dfree, ruD, dfree_ru r]
theorem depth_ru : ∀ rules : List Rule, PyData.depthAll (rules.map ruD) ≤ 1
  | [] => Nat.zero_le _
  | p :: r => by
    have := depth_ru r
    simp only [List.map_cons, PyData.depthAll, ruD, PyData.depth]
    simp
    omega
theorem in_rules {neg : Bool} (p : Rule) (rules : List Rule) : eIn neg (ruD p) (.list (rules.map ruD)) = some (.bool (neg ^^ decide (p ∈ rules))) := by
  show eInL neg (ruD p) (.list (rules.map ruD)) = _
  unfold eInL
  show (if _ then _ else _) = _
  have hd : ((dfreeAll (rules.map ruD) || dfree (ruD p)) && decide (min (PyData.depthAll (rules.map ruD)) (ruD p).depth ≤ 60)) = true := by
    have h1 := depth_ru rules
    have h2 : min (PyData.depthAll (rules.map ruD)) (ruD p).depth ≤ 60 := Nat.le_trans (Nat.min_le_left _ _) (by omega)
    rw [dfree_ru, Bool.true_or, Bool.true_and, decide_eq_true h2]
  rw [if_pos hd]
  refine congrArg (fun b => some (PyData.bool (neg ^^ b))) ?_
  rw [Bool.eq_iff_iff, List.any_eq_true, decide_eq_true_eq]
  constructor
  · rintro ⟨x, hx, e⟩
    obtain ⟨q, hq, rfl⟩ := List.mem_map.mp hx
    rw [eqv_ru, decide_eq_true_eq] at e
    exact e ▸ hq
  · intro h
    exact ⟨ruD p, List.mem_map.mpr ⟨p, h, rfl⟩, by rw [eqv_ru]; simp⟩
theorem in_keys {neg : Bool} (k : List Nat) (keys : List (List Nat)) : eIn neg (.str (tx k)) (.list (keys.map keD)) = some (.bool (neg ^^ decide (k ∈ keys))) := by
  have e : keys.map keD = (keys.map tx).map .str := by simp [keD]
  rw [e, in_lst]
  refine congrArg (fun b => some (PyData.bool (neg ^^ b))) ?_
  rw [Bool.eq_iff_iff, decide_eq_true_eq]
  simp [isOf, isS]
  constructor
  · rintro ⟨q, hq, e⟩; exact tx_inj e ▸ hq
  · intro h; exact ⟨k, h, rfl⟩
theorem ix_nat {xs : List PyData} {k : Nat} (h : k < xs.length) : eIx (.list xs) (.int (k : Int)) = some xs[k] := atI_nat (List.getElem?_eq_getElem h)
/-- a written list of numbers at a drawn place -/
theorem ix_ints {ns : List Int} {k : Nat} (h : k < ns.length) : eIx (.list (ns.map .int)) (.int (k : Int)) = some (.int ns[k]) := by
  rw [ix_nat (by simpa using h)]
  simp
/-- a sign of a text -/
theorem ix_str {l : List Nat} {k : Nat} (h : k < l.length) (hl : l.length ≤ 1000) : eIx (.str (tx l)) (.int (k : Int)) = some (sg l[k]) := by
  show (if (tx l).length ≤ sizeLine then _ else _) = _
  rw [len_Ls, Ls_tx, if_pos (by rw [sizeLine_eq]; omega)]
  have : atI (tx l).cps.toList (k : Int) = some l[k] := by
    show atI (Ls (tx l)) _ = _
    rw [Ls_tx]
    exact atI_nat (List.getElem?_eq_getElem h)
  rw [this]
  rfl
/-- .. the last one -/
theorem ix_last {l : List Nat} (h : l ≠ []) (hl : l.length ≤ 1000) : eIx (.str (tx l)) (.int (-1)) = some (sg (l.getLast h)) := by
  show (if (tx l).length ≤ sizeLine then _ else _) = _
  rw [len_Ls, Ls_tx, if_pos (by rw [sizeLine_eq]; omega)]
  have hp : 0 < l.length := List.length_pos_iff.mpr h
  have : atI (tx l).cps.toList (-1) = some (l.getLast h) := by
    show atI (Ls (tx l)) _ = _
    rw [Ls_tx]
    unfold atI ixN
    rw [if_neg (by decide), if_pos (by omega)]
    have e : ((l.length : Int) + (-1)).toNat = l.length - 1 := by omega
    show l[((-1 : Int) + (l.length : Int)).toNat]? = _
    rw [show ((-1 : Int) + (l.length : Int)).toNat = l.length - 1 by omega, List.getLast_eq_getElem]
    exact List.getElem?_eq_getElem _
  rw [this]
  rfl
end Pu
namespace PuT
open PySem PySem.Spec PyProof.Rows L2
open AutoSeq1 (wpAny_loadPart')
section
variable {prog : Program} {w : World} {A : Around} {E : Value → Shared → Prop} {s : Shared}
theorem code_tuple_str {Q₁ : Value → Shared → Prop} (hh : A.handled = none) (x : Str) (t : Tok) (hn : x.cps.size ≤ sizeLine)
    (h : ∀ (h' : Heap) (tk : Nat) (acc : Array Value), (∀ b o, s.heap.get? b = some o → h'.get? b = some o) → ItemsOf (SignAt x) acc x.cps.size →
      Q₁ (.ref h'.objs.size) { s with heap := h'.push { cls := .type "tuple", data := .seq acc }, toks := tk }) :
    codeAny (model prog w) A (.call (.builtin "tuple.__new__") ⟨[.type "tuple", .str x t], []⟩) (wants Q₁ E) s := by
  refine codeAny_of_tree ?_
  show wpAny _ A.in1 (do checkBuiltinCall "tuple.__new__" ⟨[.type "tuple", .str x t], []⟩; again (.builtin "tuple.__new__" ⟨[.type "tuple", .str x t], []⟩)) _ _ s
  refine wpAny_bind (wpAny_of_eq (F.newCall_tuple_1 _) (wpAny_pure ⟨plainId_quiet F.plain_tuple_new _, codeAny_builtin F.entry_tuple_new ?_⟩))
  rw [Around.under_plainId F.plain_tuple_new _]
  have hsub := sub_tuple_self
  have hinit := init_tuple_lookup
  have hmh := madeHere_tuple
  have hTI : s.TypeIs (.str x t) "str" := rfl
  have hh1 : A.in1.handled = none := hh
  have col : ∀ {Q : List Value → Shared → Prop} {E' : Value → Shared → Prop}, (∀ h' tk acc, (∀ b o, s.heap.get? b = some o → h'.get? b = some o) → ItemsOf (SignAt x) acc x.cps.size → Q acc.toList { s with heap := h', toks := tk }) → wpAny (model prog w) A.in1 (collect (.str x t)) Q E' s := fun {Q E'} hQ =>
    wpAny_collect_str hh1 x t (fun s' acc k1 k2 k3 k4 hi => by
      obtain ⟨h', g', d', tk', os'⟩ := s'
      simp only at k1 k2 k3 k4
      subst k2 k3 k4
      exact hQ h' tk' acc k1 hi) hn
  wp_walk using wpAny_typeOf hTI, col
  intro h' tk acc hk hacc
  show wpAny _ _ (Builtin.Tuple.tupleExact acc.toList.toArray >>= fun v => ret v) _ _ _
  unfold Builtin.Tuple.tupleExact
  refine wpAny_bind (wpAny_newObj_type ?_ (by show acc.toList.toArray.size ≤ sizeLine; simp only [Array.toArray_toList]; rw [hacc.1]; exact hn))
  refine wpAny_pure ?_
  have e : acc.toList.toArray = acc := by simp
  rw [e]
  exact h h' tk acc hk hacc
theorem call_tuple_text {Q : Value → Shared → Prop} (hh : A.handled = none) (x : Str) (t : Tok) (hn : x.cps.size ≤ sizeLine)
    (hQ : ∀ (h' : Heap) (tk : Nat) (acc : Array Value), (∀ b o, s.heap.get? b = some o → h'.get? b = some o) → ItemsOf (SignAt x) acc x.cps.size →
      Q (.ref h'.objs.size) { s with heap := h'.push { cls := .type "tuple", data := .seq acc }, toks := tk }) :
    wpAny (model prog w) A (call (.type "tuple") [.str x t]) Q E s := by
  refine callType_codes (Q₁ := fun obj s₁ => s₁.TypeIs obj "tuple" ∧ Q obj s₁) F.called_tuple (F.typeCall_tuple_1 _) F.entry_object_init
    (code_tuple_str (A := A.in1) hh x t hn fun h' tk acc hk hacc => ⟨⟨_, Heap.get?_push_size _ rfl, rfl⟩, hQ h' tk acc hk hacc⟩) fun obj s₁ h₁ => ?_
  exact ⟨h₁.1, F.args_object_init_2 obj _, object_init_meets F.called_tuple.init.lookup F.called_tuple.made (by decide) prog w A.in1 _ s₁ ⟨h₁.1, rfl, h₁.2⟩⟩
end
end PuT
namespace Pu
open PySem PySem.Spec PyProof.Rows L2 SeqAt PuS PuT
def rTupS : List V → Hp → VK → Prop := fun xs H Q => ∃ z, xs = [.str z] ∧ z.length ≤ sizeLine ∧ NewT H Q (chV z)
theorem call_tupS {X : Cx} (hc : X.calm = true) : CallR X (.type "tuple") rTupS := by
  intro pins s σ H xs us Q I r h
  obtain ⟨z, e, hl, q⟩ := h
  subst e
  obtain ⟨u, eu, rx⟩ := vals1 r
  subst eu
  obtain ⟨t, rfl⟩ := rx
  have lz : (chV z).length = z.cps.size := by simp [chV]
  refine call_tuple_text (I.ok.hd hc) z t hl fun h' tk acc hk hi => ?_
  have vs : Vals (chV z) acc.toList := by
    refine vals_of_at (by rw [lz, Array.length_toList, hi.1]) fun j x u h1 h2 => ?_
    obtain ⟨c, tk, e1, rfl⟩ := hi.2 j u (by rw [← h2, Array.getElem?_toList])
    unfold chV at h1
    rw [List.getElem?_map, Array.getElem?_toList, e1] at h1
    cases h1
    exact ⟨tk, rfl⟩
  have I1 : Inv X pins σ H { s with heap := h', toks := tk } := I.kept hk
  cases acc with
  | mk l => exact ⟨.ref h'.objs.size, _, laidT I1 (its := l) vs (by rw [lz]; exact hl), rfl, newT I1 q⟩
def pTupA : P1
  | .list xs, P => P (.tuple xs)
  | .tuple xs, P => P (.tuple xs)
  | .str z, P => z.length ≤ sizeLine ∧ P (.tuple (chS z))
  | _, _ => False
def rTupA (K : PySem.W.Frag) : List V → Hp → VK → Prop := fun xs H Q => (∃ p ys, xs = [.ref p] ∧ ((SqL K H p ys ∧ NewT H Q ys) ∨ (SqT K H p ys ∧ Q (.ref p) H))) ∨ rTupS xs H Q
theorem call_tupA {X : Cx} (hc : X.calm = true) : CallR X (.type "tuple") (rTupA X.K) := fun pins s σ H xs us Q I r h => h.elim (fun h => call_tupleP pins s σ H xs us Q I r h) fun h => call_tupS hc pins s σ H xs us Q I r h
theorem c_tupA {X : Cx} : Cl1 X.K (rTupA X.K) pTupA := by
  intro pn b F H v x P Q o bv q k
  match x, q with
  | .list xs, q =>
    obtain ⟨a, vs, rfl, h1, r1⟩ := bv.list o
    exact .inl ⟨_, vs, rfl, .inl ⟨SqL.of h1, k.tup o r1 q⟩⟩
  | .tuple xs, q =>
    rcases bv with bv | ⟨_, e, _⟩
    · cases bv with
      | tup h r => exact .inl ⟨_, _, rfl, .inr ⟨Same.tup o.sub h.sq, k _ _ F H o .refl (.tup h r) q⟩⟩
    · cases e
  | .str z, ⟨hl, q⟩ =>
    rw [bv.str]
    exact .inr ⟨z, rfl, hl, k.tup o (rvs_ch z) q⟩
def eTupA : PyData → Option PyData
  | .list xs => some (.tuple xs)
  | .tuple xs => some (.tuple xs)
  | .str z => if z.length ≤ sizeLine then some (.tuple (chS z)) else none
  | _ => none
theorem h1_tupA : H1 pTupA eTupA := fun x P r q k => by
  cases x <;> first | (cases q; exact k) | (obtain ⟨c, e⟩ := ite_some q; subst e; exact ⟨c, k⟩) | cases q
def pMulT : P2
  | .int i, .int j, P => CMul i j ∧ P (.int (i * j))
  | .list xs, .int k, P => -(2 ^ 63) ≤ k ∧ k < 2 ^ 63 ∧ xs.length * k.toNat ≤ sizeLine ∧ P (.list (List.replicate k.toNat xs).flatten)
  | _, _, _ => False
def rMulT (K : PySem.W.Frag) : R2 := fun x y H Q => rMulA x y H Q
theorem opr_mulT {X : Cx} : OpR X (binaryOp .Mult) (rMulT X.K) := opr_mul
theorem o_mulT {K : PySem.W.Frag} : Op2 K (rMulT K) pMulT := by
  intro pn b F H v u x y P Q o bv bu q k
  match x, y, q with
  | .int i, .int j, ⟨c, q⟩ => exact .inl ⟨i, j, bv.int, bu.int, c, k _ _ F H o .refl (.int _) q⟩
  | .list xs, .int n, ⟨z1, z2, z3, q⟩ =>
    obtain ⟨a, vs, rfl, h1, r1⟩ := bv.list o
    exact .inr ⟨a, n, vs, rfl, bu.int, h1, z1, z2, by rw [r1.len]; exact z3, k.lst o (r1.rep _) q⟩
def eMulT : PyData → PyData → Option PyData
  | .tuple _, _ => none
  | x, y => eMul x y
theorem h2_mulT : H2 pMulT eMulT := fun x y P r q k => by
  cases x with
  | tuple xs => cases y with
    | _ => cases q
  | int i => cases y with
    | int j => exact h2_mul (.int i) (.int j) P r q k
    | _ => cases q
  | list xs => cases y with
    | int j => exact h2_mul (.list xs) (.int j) P r q k
    | _ => cases q
  | _ => cases y <;> cases q
abbrev ePow := eI (fun i j => decide (0 ≤ j) && (decide (j ≤ 1000000) && decide (i.natAbs < 2 ^ 64))) fun i j => .int (i ^ j.toNat)
theorem h2_pow : H2 pPow ePow := h2_i fun i j h => by
  obtain ⟨h1, h⟩ := Bool.and_eq_true_iff.mp h
  obtain ⟨h2, h3⟩ := Bool.and_eq_true_iff.mp h
  exact ⟨of_decide_eq_true h1, of_decide_eq_true h2, of_decide_eq_true h3⟩
end Pu
namespace Pu
open PySem PySem.Spec PyProof.Rows L2 SeqAt PuS
theorem mulT_list (xs : List PyData) (k : Int) : eMulT (.list xs) (.int k) = eMul (.list xs) (.int k) := rfl
theorem mulT_nat {xs : List PyData} (k : Nat) (h : xs.length * k ≤ 100000) (hk : k ≤ 1000) : eMulT (.list xs) (.int (k : Int)) = some (.list (List.replicate k xs).flatten) := by rw [mulT_list, mul_nat k h hk]
theorem mulT_tst {xs : List PyData} (c : Bool) (h : xs.length ≤ 100000) : eMulT (.list xs) (.int (if c then 1 else 0)) = some (.list (if c then xs else [])) := by rw [mulT_list, mul_tst c h]
structure Fit (B D : Nat) (d : PyData) : Prop where
  shw : d.showable = true
  leaf : d.leavesShort 60 = true
  ok : okR d
  bulk : d.bulk ≤ B
  deep : d.depth ≤ D
structure FitS (B D : Nat) (xs : List PyData) : Prop where
  shw : PyData.showableAll xs = true
  leaf : PyData.leavesShortAll 60 xs = true
  ok : okRs xs
  bulk : PyData.bulkAll xs ≤ B
  deep : PyData.depthAll xs ≤ D
section
variable {B C D E : Nat} {d : PyData} {xs ys : List PyData}
theorem Fit.le (h : Fit B D d) (hB : B ≤ C) (hD : D ≤ E) : Fit C E d := ⟨h.shw, h.leaf, h.ok, Nat.le_trans h.bulk hB, Nat.le_trans h.deep hD⟩
theorem FitS.le (h : FitS B D xs) (hB : B ≤ C) (hD : D ≤ E) : FitS C E xs := ⟨h.shw, h.leaf, h.ok, Nat.le_trans h.bulk hB, Nat.le_trans h.deep hD⟩
theorem FitS.nil : FitS 0 0 [] := ⟨rfl, rfl, trivial, Nat.le_refl _, Nat.le_refl _⟩
theorem FitS.cons (h : Fit B D d) (hs : FitS C D xs) : FitS (B + 1 + C) D (d :: xs) := by
  refine ⟨?_, ?_, ⟨h.ok, hs.ok⟩, ?_, ?_⟩
  · simp [PyData.showableAll, h.shw, hs.shw]
  · simp [PyData.leavesShortAll, h.leaf, hs.leaf]
  · have := h.bulk; have := hs.bulk; simp only [PyData.bulkAll]; omega
  · have := h.deep; have := hs.deep; simp only [PyData.depthAll]; omega
theorem FitS.uncons (h : FitS B D (d :: xs)) : ∃ B1 B2, Fit B1 D d ∧ FitS B2 D xs ∧ B1 + 1 + B2 ≤ B := by
  have h1 := h.shw; have h2 := h.leaf; have h3 := h.bulk; have h4 := h.deep
  simp [PyData.showableAll] at h1
  simp [PyData.leavesShortAll] at h2
  simp only [PyData.bulkAll] at h3
  simp only [PyData.depthAll] at h4
  exact ⟨d.bulk, PyData.bulkAll xs, ⟨h1.1, h2.1, h.ok.1, Nat.le_refl _, by omega⟩, ⟨h1.2, h2.2, h.ok.2, Nat.le_refl _, by omega⟩, h3⟩
theorem FitS.len : ∀ {xs : List PyData} {B : Nat}, FitS B D xs → xs.length ≤ B
  | [], _, _ => Nat.zero_le _
  | x :: xs, B, hs => by
    obtain ⟨B1, B2, h1, h2, hb⟩ := hs.uncons
    have := h2.len
    simp only [List.length_cons]
    omega
theorem FitS.append : ∀ {xs : List PyData} {B : Nat}, FitS B D xs → FitS C D ys → FitS (B + C) D (xs ++ ys)
  | [], B, _, h => h.le (by omega) (Nat.le_refl _)
  | x :: xs, B, hs, h => by
    obtain ⟨B1, B2, h1, h2, hb⟩ := hs.uncons
    exact (FitS.cons h1 (h2.append h)).le (by omega) (Nat.le_refl _)
theorem FitS.sub : ∀ {ys xs : List PyData} {B : Nat}, FitS B D ys → xs.Sublist ys → FitS B D xs
  | _, _, B, hs, .slnil => hs.le (by omega) (Nat.le_refl _)
  | y :: ys, xs, B, hs, .cons _ s => by
    obtain ⟨B1, B2, h1, h2, hb⟩ := hs.uncons
    exact (h2.sub s).le (by omega) (Nat.le_refl _)
  | y :: ys, _ :: xs, B, hs, .cons₂ _ s => by
    obtain ⟨B1, B2, h1, h2, hb⟩ := hs.uncons
    exact (FitS.cons h1 (h2.sub s)).le (by omega) (Nat.le_refl _)
theorem FitS.take (h : FitS B D xs) (n : Nat) : FitS B D (xs.take n) := h.sub (List.take_sublist n xs)
theorem FitS.drop (h : FitS B D xs) (n : Nat) : FitS B D (xs.drop n) := h.sub (List.drop_sublist n xs)
theorem FitS.rev : ∀ {xs : List PyData} {B : Nat}, FitS B D xs → FitS B D xs.reverse
  | [], B, h => h
  | x :: xs, B, hs => by
    obtain ⟨B1, B2, h1, h2, hb⟩ := hs.uncons
    rw [List.reverse_cons]
    exact (h2.rev.append (FitS.cons h1 (FitS.nil.le (Nat.le_refl _) (Nat.zero_le _)))).le (by omega) (Nat.le_refl _)
theorem FitS.rep (h : FitS B D xs) : ∀ n, FitS (n * B) D (List.replicate n xs).flatten
  | 0 => FitS.nil.le (by omega) (Nat.zero_le _)
  | n + 1 => by
    rw [List.replicate_succ, List.flatten_cons]
    exact (h.append (h.rep n)).le (by rw [Nat.add_mul]; omega) (Nat.le_refl _)
theorem Fit.tup (h : FitS B D xs) : Fit B (D + 1) (.tuple xs) := ⟨by simp [PyData.showable, h.shw], by simp [PyData.leavesShort, h.leaf], h.ok, by have := h.bulk; simpa [PyData.bulk] using this, by have := h.deep; simpa [PyData.depth] using this⟩
theorem Fit.lst (h : FitS B D xs) : Fit B (D + 1) (.list xs) := ⟨by simp [PyData.showable, h.shw], by simp [PyData.leavesShort, h.leaf], h.ok, by have := h.bulk; simpa [PyData.bulk] using this, by have := h.deep; simpa [PyData.depth] using this⟩
theorem Fit.str {z : Str} (h : (Ls z).length ≤ 100) (h2 : ∀ c ∈ Ls z, c < 128) : Fit 100 0 (.str z) := by
  refine ⟨by simp [PyData.showable], ?_, ⟨by omega, fun c hc => by have := h2 c hc; omega⟩, ?_, by simp [PyData.depth]⟩
  · simp only [PyData.leavesShort, List.all_eq_true, decide_eq_true_eq]
    intro c hc
    have := h2 c hc
    omega
  · simp only [PyData.bulk]
    show z.cps.size ≤ 100
    have : z.cps.size = (Ls z).length := by simp [Ls]
    omega
theorem Fit.non : Fit 0 0 .none := ⟨rfl, rfl, trivial, Nat.le_refl _, Nat.le_refl _⟩
theorem Fit.bl (b : Bool) : Fit 0 0 (.bool b) := ⟨rfl, rfl, trivial, Nat.le_refl _, Nat.le_refl _⟩
theorem Fit.dct : Fit 0 1 (.dict []) := ⟨rfl, rfl, trivial, Nat.le_refl _, by simp [PyData.depth, PyData.depthKv]⟩
theorem lg_lt {n k : Nat} (h : n < 10 ^ 55) (hk : 183 ≤ k) : n.log2 < k := by
  by_cases e : n = 0
  · rw [e, show Nat.log2 0 = 0 from by decide]; omega
  · rw [Nat.log2_lt e]
    exact Nat.lt_of_lt_of_le (Nat.lt_trans h (show 10 ^ 55 < 2 ^ 183 by decide)) (Nat.pow_le_pow_right (by decide) hk)
theorem Fit.int {i : Int} (h : i.natAbs < 10 ^ 55) : Fit 0 0 (.int i) := by
  have hl : (toString i).length ≤ 55 + 1 := int_text_length_le10 (by decide) h
  have hg : i.natAbs.log2 < 1920 := lg_lt h (by decide)
  refine ⟨by simp [PyData.showable, hg], ?_, trivial, Nat.le_refl _, Nat.le_refl _⟩
  simp only [PyData.leavesShort, decide_eq_true_eq]
  show (Str.ofString (toString i)).length ≤ 60
  rw [Str.ofString_eq_toList]
  have : (toString i).toList.length = (toString i).length := by first | exact String.length_toList | rfl
  show ((toString i).toList.map Char.toNat).toArray.size ≤ 60
  rw [List.size_toArray, List.length_map]
  omega
/-- repr fits -/
theorem Fit.shown (h : Fit B D d) (hB : B ≤ 100000) : d.shown.length ≤ sizeLine := by
  have := PyData.shown_le_bulk 60 (by decide) d h.leaf
  have h2 := h.bulk
  rw [sizeLine_eq]
  omega
end
end Pu
namespace Pu
open PySem PySem.Spec PyProof.Rows L2 SeqAt PuS
def pNe2 : P2 := fun x y P => pNe x y P ∨ ∃ s t, x = .str s ∧ y = .str t ∧ P (.bool (!decide (s = t)))
def rNe2 (K : PySem.W.Frag) : R2 := fun x y H Q => rNeD K x y H Q ∨ rNe x y H Q
theorem opr_ne2 {X : Cx} (hu : X.A.units + 64 < cLine) : OpR X (compareOp .NotEq) (rNe2 X.K) := OpR.or (op_neD (by omega)) op_ne
theorem o_ne2 {K : PySem.W.Frag} : Op2 K (rNe2 K) pNe2 := by
  intro pn b F H v u x y P Q o bv bu q k
  rcases q with q | ⟨s, t, rfl, rfl, q⟩
  · exact .inl (o_ne pn b F H v u x y P Q o bv bu q k)
  · refine .inr ?_
    rw [bv.str, bu.str]
    refine ⟨rfl, ?_⟩
    have e : (decide (V.str s = V.str t)) = decide (s = t) := by rw [Bool.eq_iff_iff]; simp
    rw [e]
    exact k _ _ F H o .refl (.bl _) q
def eNe2 : PyData → PyData → Option PyData
  | .str s, .str t => some (.bool (!decide (s = t)))
  | x, y => eNe x y
theorem h2_ne2 : H2 pNe2 eNe2 := fun x y P r q k => by
  cases x with
  | str s => cases y with
    | str t => cases q; exact .inr ⟨s, t, rfl, rfl, k⟩
    | _ => exact .inl (h2_ne _ _ P r q k)
  | _ => exact .inl (h2_ne _ y P r (by cases y <;> exact q) k)
theorem ne2_str (s t : Str) : eNe2 (.str s) (.str t) = some (.bool (!decide (s = t))) := rfl
theorem ne2_int (i j : Int) : eNe2 (.int i) (.int j) = some (.bool (!decide (i = j))) := ne_int i j
theorem ne2_nilL {l : List Nat} (h : ∀ c ∈ l, c < 0x110000) : eNe2 (.list (l.map sg)) (.list []) = some (.bool (!l.isEmpty)) := ne_nilL h
theorem FitS.all {B D : Nat} : ∀ {xs : List PyData}, (∀ x ∈ xs, Fit B D x) → FitS ((B + 1) * xs.length) D xs
  | [], _ => FitS.nil.le (Nat.zero_le _) (Nat.zero_le _)
  | x :: xs, h => (FitS.cons (h x List.mem_cons_self) (FitS.all fun y hy => h y (List.mem_cons_of_mem _ hy))).le (by rw [List.length_cons, Nat.mul_add]; omega) (Nat.le_refl _)
end Pu
namespace Pu
open PySem PySem.Spec PyProof.Rows L2 SeqAt PuS
abbrev Ent := List Key × Addr × Value
structure DRaw (P : Program) (w : World) (a : Addr) (xs : List Ent) (h : Heap) : Prop where
  out : (a == sysModules) = false
  ex : ∃ (o : Obj) (es : Array DictEntry) (ep : Nat), h.get? a = some o ∧ o.ExactDict ∧ o.data = .dict es ep ∧ es.toList = xs.map (entryOfKey (tupleKind (mixKind P w))) ∧ (xs.map (·.1)).Nodup
def DOwn (P : Program) (w : World) (a : Addr) (xs : List Ent) : HO := .ext (DRaw P w a xs)
end Pu
namespace Pu
open PySem PySem.Spec PyProof.Rows L2 SeqAt PuS
def SeenE (K : PySem.W.Frag) (F : Hp) (xs : List Ent) (s : List Int → Option (List Int)) : Prop :=
  ∀ ns : List Int, (atKey xs (ns.map Sum.inl) = none ∧ s ns = none) ∨ ∃ b c u, atKey xs (ns.map Sum.inl) = some (b, .ref c) ∧ s ns = some u ∧ RV K F (.ref c) (tI u)
theorem inl_inj {a b : List Int} (h : (a.map Sum.inl : List Key) = b.map Sum.inl) : a = b := by
  induction a generalizing b with
  | nil => cases b with
    | nil => rfl
    | cons => simp at h
  | cons x r ih => cases b with
    | nil => simp at h
    | cons y t =>
      simp only [List.map_cons, List.cons.injEq, Sum.inl.injEq] at h
      rw [h.1, ih h.2]
theorem SeenE.mono {K : PySem.W.Frag} {F G : Hp} {xs : List Ent} {s : List Int → Option (List Int)} (h : SeenE K F xs s) (e : Same F G) : SeenE K G xs s := fun ns =>
  (h ns).imp id fun ⟨b, c, u, h1, h2, r⟩ => ⟨b, c, u, h1, h2, r.mono e⟩
theorem atKey_snoc {xs : List Ent} {k j : List Key} {p : Addr × Value} (h : atKey xs k = none) : atKey (xs ++ [(k, p)]) j = if j = k then some p else atKey xs j := by
  unfold atKey at h ⊢
  rw [List.find?_append]
  by_cases e : j = k
  · subst e
    rw [if_pos rfl]
    rw [Option.map_eq_none_iff.mp h]
    simp
  · rw [if_neg e]
    have : ([(k, p)] : List Ent).find? (fun x => decide (x.1 = j)) = none := by simp [List.find?_cons, Ne.symm e]
    rw [this]
    simp
theorem SeenE.put {K : PySem.W.Frag} {F : Hp} {xs : List Ent} {s : List Int → Option (List Int)} (h : SeenE K F xs s) {g w : List Int} {b c : Addr} (n : atKey xs (g.map Sum.inl) = none) (r : RV K F (.ref c) (tI w)) :
    SeenE K F (xs ++ [(g.map Sum.inl, b, .ref c)]) (fun x => if x = g then some w else s x) := fun ns => by
  rw [atKey_snoc n]
  by_cases e : ns = g
  · subst e
    exact .inr ⟨b, c, w, if_pos rfl, if_pos rfl, r⟩
  · have e1 : ¬ (ns.map Sum.inl : List Key) = g.map Sum.inl := fun q => e (inl_inj q)
    rw [if_neg e1]
    rcases h ns with ⟨h1, h2⟩ | ⟨b', c', u, h1, h2, h3⟩
    · exact .inl ⟨h1, (if_neg e).trans h2⟩
    · exact .inr ⟨b', c', u, h1, (if_neg e).trans h2, h3⟩
section
variable {K : PySem.W.Frag} {pn : Pn} {b : Nat} {F0 H0 F H : Hp} {σ : L2.St} {env : En} {j : Nat} {a : Addr} {P : Program} {w : World} {xs ys : List Ent}
theorem PenIs.apart (k : PenIs pn b F H) (h : H a = some (DOwn P w a xs)) : NotPen pn a ∧ ∀ pa ca, pn = some (pa, ca) → a ≠ ca := by
  match pn, k with
  | none, _ => exact ⟨fun _ _ z => (nomatch z), fun _ _ z => (nomatch z)⟩
  | some (pa, ca), ⟨_, _, _, cells, at_, cur, h1, h2, _⟩ =>
    refine ⟨fun p c e z => ?_, fun p c e z => ?_⟩
    · cases e; rw [z, h1] at h; exact nomatch h
    · cases e; rw [z, h2] at h; exact nomatch h
end
end Pu
namespace PuT
open PySem PySem.Spec PyProof.Rows L2
end PuT
namespace Pu
open PySem PySem.Spec PyProof.Rows L2 SeqAt PuT
end Pu
namespace Pu
open PySem PySem.Spec PyProof.Rows L2 SeqAt PuS
end Pu
namespace Pu
open PySem PySem.Spec PyProof.Rows L2 SeqAt PuS
section
variable {ta : WE} {tt : WT} {ti : WI} {env : En} {n : Nat} {Q : PyData → Nat → Prop} {QL : List PyData → Nat → Prop} {g : Tg} {own : List Nat} {α : Type}
theorem m_lcM (zs : List α) (dz y : α → PyData) (h : ME ti env n fun xs m => xs = zs.map dz ∧ zs.length < sizeLine ∧
      (∀ z ∈ zs, ∃ e', setT g (dz z) (wipeE env own) = some e' ∧ ∀ m, ME ta e' m fun d m1 => d = y z ∧ m1 = m) ∧ QL (zs.map y) m) : ME (fLc ti g wYes ta own) env n QL :=
  m_lc (h.imp fun xs m ⟨ex, l, each, q⟩ => ⟨by rw [ex, List.length_map]; exact l, fun rest acc m1 => m1 = m ∧ ∃ pre post, zs = pre ++ post ∧ rest = post.map dz ∧ acc = pre.map y, ⟨rfl, [], zs, rfl, ex, rfl⟩, fun x rest acc m1 ⟨em, pre, post, e1, e2, e3⟩ => by
    subst em
    cases post with
    | nil => cases e2
    | cons z post =>
    rw [List.map_cons] at e2
    obtain ⟨rfl, rfl⟩ := List.cons.inj e2
    obtain ⟨e', h1, h3⟩ := each z (by rw [e1]; simp)
    refine ⟨e', h1, m_yes ⟨fun _ => (h3 m1).imp fun d m3 ⟨ed, em⟩ => ?_, fun h => Bool.noConfusion h⟩⟩
    subst ed em
    exact ⟨rfl, pre ++ [z], post, by rw [e1]; simp, rfl, by rw [e3]; simp⟩, fun acc m1 ⟨em, pre, post, e1, e2, e3⟩ => by
    subst em
    have e0 : post = [] := by cases post with | nil => rfl | cons c r => cases e2
    subst e0
    rw [List.append_nil] at e1
    subst e1
    rw [e3]
    exact q⟩)
theorem m_lcK (zs : List α) (dz y : α → PyData) (c : α → Bool) (h : ME ti env n fun xs m => xs = zs.map dz ∧ zs.length < sizeLine ∧
      (∀ z ∈ zs, ∃ e', setT g (dz z) (wipeE env own) = some e' ∧ (∀ m, ME tt e' m fun k m1 => k = c z ∧ m1 = m) ∧ ∀ m, ME ta e' m fun d m1 => d = y z ∧ m1 = m) ∧ QL ((zs.filter c).map y) m) : ME (fLc ti g tt ta own) env n QL :=
  m_lc (h.imp fun xs m ⟨ex, l, each, q⟩ => ⟨by rw [ex, List.length_map]; exact l, fun rest acc m1 => m1 = m ∧ ∃ pre post, zs = pre ++ post ∧ rest = post.map dz ∧ acc = (pre.filter c).map y, ⟨rfl, [], zs, rfl, ex, rfl⟩, fun x rest acc m1 ⟨em, pre, post, e1, e2, e3⟩ => by
    subst em
    cases post with
    | nil => cases e2
    | cons z post =>
    rw [List.map_cons] at e2
    obtain ⟨rfl, rfl⟩ := List.cons.inj e2
    obtain ⟨e', h1, h2, h3⟩ := each z (by rw [e1]; simp)
    refine ⟨e', h1, (h2 m1).imp fun k m2 ⟨ek, em⟩ => ?_⟩
    subst ek em
    refine ⟨fun ck => (h3 m2).imp fun d m3 ⟨ed, em⟩ => ?_, fun ck => ?_⟩
    · subst ed em
      exact ⟨rfl, pre ++ [z], post, by rw [e1]; simp, rfl, by rw [e3, List.filter_append, List.map_append]; simp [ck]⟩
    · exact ⟨rfl, pre ++ [z], post, by rw [e1]; simp, rfl, by rw [e3, List.filter_append, List.map_append]; simp [ck]⟩, fun acc m1 ⟨em, pre, post, e1, e2, e3⟩ => by
    subst em
    have e0 : post = [] := by cases post with | nil => rfl | cons c r => cases e2
    subst e0
    rw [List.append_nil] at e1
    subst e1
    rw [e3]
    exact q⟩)
end
end Pu
namespace Pu
section
variable {K : List Nat} {rules : List (List Nat × Nat)} {keys : List (List Nat)} {X f g : List Nat}
/-- all of the part are found -/
def inB (part found : List Nat) : Bool := part.all fun c => decide (c ∈ found)
theorem inB_iff {part found : List Nat} : inB part found = true ↔ ∀ c ∈ part, c ∈ found := by simp [inB]
structure Closed (K : List Nat) (rules : List (List Nat × Nat)) (keys : List (List Nat)) (S : Nat → Prop) : Prop where
  rule : ∀ p ∈ rules, (∀ c ∈ p.1, S c) → S p.2
  key : ∀ k ∈ keys, (∀ c ∈ k, S c) → ∀ c ∈ K, S c
/-- between the columns and each closed set that holds them -/
structure Btw (K : List Nat) (rules : List (List Nat × Nat)) (keys : List (List Nat)) (X f : List Nat) : Prop where
  low : ∀ c ∈ X, c ∈ f
  high : ∀ S, Closed K rules keys S → (∀ c ∈ X, S c) → ∀ c ∈ f, S c
theorem btw_one (h1 : Btw K rules keys X f) (h2 : Btw K rules keys X g) (c1 : Closed K rules keys (· ∈ f)) (c2 : Closed K rules keys (· ∈ g)) (c : Nat) : c ∈ f ↔ c ∈ g :=
  ⟨fun h => h1.high _ c2 h2.low c h, fun h => h2.high _ c1 h1.low c h⟩
/-- a round of the package's -/
def rnd (K : List Nat) (rules : List (List Nat × Nat)) (keys : List (List Nat)) (f : List Nat) : List Nat :=
  if keys.any (fun k => inB k f) = true then K else K.filter fun c => decide (c ∈ f ++ (rules.filter fun p => inB p.1 f).map (·.2))
def rnds (K : List Nat) (rules : List (List Nat × Nat)) (keys : List (List Nat)) : Nat → List Nat → List Nat
  | 0, f => f
  | n + 1, f => rnds K rules keys n (rnd K rules keys f)
theorem rnd_btw (hr : ∀ p ∈ rules, p.2 ∈ K) (hf : ∀ c ∈ f, c ∈ K) (h : Btw K rules keys X f) : Btw K rules keys X (rnd K rules keys f) := by
  unfold rnd
  by_cases a : keys.any (fun k => inB k f) = true
  · rw [if_pos a]
    obtain ⟨k, hk, hi⟩ := List.any_eq_true.mp a
    exact ⟨fun c hc => hf c (h.low c hc), fun S cl hX c hc => cl.key k hk (fun d hd => h.high S cl hX d (inB_iff.mp hi d hd)) c hc⟩
  · rw [if_neg a]
    refine ⟨fun c hc => List.mem_filter.mpr ⟨hf c (h.low c hc), by simp [h.low c hc]⟩, fun S cl hX c hc => ?_⟩
    have := of_decide_eq_true (List.mem_filter.mp hc).2
    rcases List.mem_append.mp this with hc | hc
    · exact h.high S cl hX c hc
    · obtain ⟨p, hp, rfl⟩ := List.mem_map.mp hc
      obtain ⟨hp, hi⟩ := List.mem_filter.mp hp
      exact cl.rule p hp fun d hd => h.high S cl hX d (inB_iff.mp hi d hd)
theorem rnd_in : ∀ c ∈ rnd K rules keys f, c ∈ K := fun c hc => by
  unfold rnd at hc
  split at hc
  · exact hc
  · exact (List.mem_filter.mp hc).1
theorem rnd_sub (f : List Nat) : (rnd K rules keys f).Sublist K := by
  unfold rnd
  split
  · exact List.Sublist.refl _
  · exact List.filter_sublist
theorem sub_filter : ∀ {K f : List Nat}, K.Nodup → f.Sublist K → K.filter (fun c => decide (c ∈ f)) = f
  | [], f, _, h => by rw [List.sublist_nil.mp h]; rfl
  | k :: K, f, nd, h => by
    obtain ⟨h1, h2⟩ := List.nodup_cons.mp nd
    cases h with
    | cons _ h =>
      have : k ∉ f := fun q => h1 (h.subset q)
      rw [List.filter_cons_of_neg (by simpa using this)]
      exact sub_filter h2 h
    | @cons_cons f _ _ h =>
      rw [List.filter_cons_of_pos (by simp)]
      have e : K.filter (fun c => decide (c ∈ k :: f)) = K.filter (fun c => decide (c ∈ f)) := List.filter_congr fun c hc => by
        have : c ≠ k := fun e => h1 (e ▸ hc)
        simp [this]
      rw [e, sub_filter h2 h]
theorem rnd_grow (nd : K.Nodup) (h : f.Sublist K) : f.Sublist (rnd K rules keys f) := by
  unfold rnd
  split
  · exact h
  · have e := sub_filter nd h
    have : (K.filter fun c => decide (c ∈ f)).Sublist (K.filter fun c => decide (c ∈ f ++ (rules.filter fun p => inB p.1 f).map (·.2))) := by
      have e2 : (K.filter fun c => decide (c ∈ f)) = (K.filter fun c => decide (c ∈ f ++ (rules.filter fun p => inB p.1 f).map (·.2))).filter fun c => decide (c ∈ f) := by
        rw [List.filter_filter]
        refine List.filter_congr fun c _ => ?_
        by_cases q : c ∈ f <;> simp [q]
      rw [e2]
      exact List.filter_sublist
    rw [e] at this
    exact this
theorem fix_closed (hr : ∀ p ∈ rules, p.2 ∈ K) (e : rnd K rules keys f = f) : Closed K rules keys (· ∈ f) := by
  constructor
  · intro p hp hc
    rw [← e]
    unfold rnd
    split
    · exact hr p hp
    · refine List.mem_filter.mpr ⟨hr p hp, decide_eq_true ?_⟩
      exact List.mem_append_right _ (List.mem_map.mpr ⟨p, List.mem_filter.mpr ⟨hp, inB_iff.mpr hc⟩, rfl⟩)
  · intro k hk hc c hK
    have a : keys.any (fun k => inB k f) = true := List.any_eq_true.mpr ⟨k, hk, inB_iff.mpr hc⟩
    rw [← e]
    unfold rnd
    rw [if_pos a]
    exact hK
theorem rnds_fix (e : rnd K rules keys f = f) : ∀ n, rnds K rules keys n f = f
  | 0 => rfl
  | n + 1 => by
    show rnds K rules keys n (rnd K rules keys f) = f
    rw [e]
    exact rnds_fix e n
theorem rnds_end (nd : K.Nodup) : ∀ (n : Nat) (f : List Nat), f.Sublist K → K.length ≤ f.length + n → rnd K rules keys (rnds K rules keys n f) = rnds K rules keys n f
  | 0, f, h, hn => by
    have e : f = K := h.eq_of_length (Nat.le_antisymm h.length_le hn)
    subst e
    show rnd f rules keys f = f
    exact (rnd_sub f).eq_of_length (Nat.le_antisymm (rnd_sub f).length_le (rnd_grow nd h).length_le)
  | n + 1, f, h, hn => by
    by_cases e : rnd K rules keys f = f
    · rw [rnds_fix e (n + 1)]
      exact e
    · have g1 := rnd_grow (rules := rules) (keys := keys) nd h
      have : f.length ≠ (rnd K rules keys f).length := fun q => e (g1.eq_of_length q).symm
      have := g1.length_le
      exact rnds_end nd n _ (rnd_sub f) (by omega)
theorem rnds_btw (hr : ∀ p ∈ rules, p.2 ∈ K) : ∀ (n : Nat) (f : List Nat), (∀ c ∈ f, c ∈ K) → Btw K rules keys X f → Btw K rules keys X (rnds K rules keys n f)
  | 0, _, _, h => h
  | n + 1, f, hf, h => rnds_btw hr n _ rnd_in (rnd_btw hr hf h)
theorem rnds_sub : ∀ (n : Nat) (f : List Nat), f.Sublist K → (rnds K rules keys n f).Sublist K
  | 0, _, h => h
  | n + 1, f, _ => rnds_sub n _ (rnd_sub f)
/-- the closure -/
def clos (K : List Nat) (rules : List (List Nat × Nat)) (keys : List (List Nat)) (X : List Nat) : List Nat := rnds K rules keys K.length X
theorem clos_spec (nd : K.Nodup) (hr : ∀ p ∈ rules, p.2 ∈ K) (h : X.Sublist K) : Btw K rules keys X (clos K rules keys X) ∧ Closed K rules keys (· ∈ clos K rules keys X) ∧ (clos K rules keys X).Sublist K :=
  ⟨rnds_btw hr _ _ (fun c hc => h.subset hc) ⟨fun c hc => hc, fun S _ hX c hc => hX c hc⟩, fix_closed hr (rnds_end nd _ _ h (by omega)), rnds_sub _ _ h⟩
/-- whatever stands between and is closed, is the closure -/
theorem clos_of (nd : K.Nodup) (hr : ∀ p ∈ rules, p.2 ∈ K) (h : X.Sublist K) (hb : Btw K rules keys X g) (hc : Closed K rules keys (· ∈ g)) : K.filter (fun c => decide (c ∈ g)) = clos K rules keys X := by
  obtain ⟨b1, b2, b3⟩ := clos_spec (keys := keys) nd hr h
  have e : K.filter (fun c => decide (c ∈ g)) = K.filter fun c => decide (c ∈ clos K rules keys X) := List.filter_congr fun c _ => by
    have := btw_one hb b1 hc b2 c
    simp [this]
  rw [e, sub_filter nd b3]
/-- one rule of the law's turn -/
def addR (f : List Nat) (p : List Nat × Nat) : List Nat := if inB p.1 f = true ∧ p.2 ∉ f then f ++ [p.2] else f
def turnL (K : List Nat) (rules : List (List Nat × Nat)) (keys : List (List Nat)) (f : List Nat) : List Nat :=
  if keys.any (fun k => inB k (rules.foldl addR f)) = true then K else rules.foldl addR f
theorem addR_len (f : List Nat) (p : List Nat × Nat) : f.length ≤ (addR f p).length := by
  unfold addR
  split
  · rw [List.length_append]; omega
  · exact Nat.le_refl _
theorem foldR_len : ∀ (rs : List (List Nat × Nat)) (f : List Nat), f.length ≤ (rs.foldl addR f).length
  | [], _ => Nat.le_refl _
  | p :: rs, f => Nat.le_trans (addR_len f p) (foldR_len rs _)
theorem foldR_same : ∀ (rs : List (List Nat × Nat)) (f : List Nat), (rs.foldl addR f).length = f.length → rs.foldl addR f = f ∧ ∀ p ∈ rs, (∀ c ∈ p.1, c ∈ f) → p.2 ∈ f
  | [], _, _ => ⟨rfl, fun _ h => (nomatch h)⟩
  | p :: rs, f, h => by
    have h1 := addR_len f p
    have h2 := foldR_len rs (addR f p)
    have h3 : (rs.foldl addR (addR f p)).length = f.length := h
    have e : addR f p = f ∧ ((∀ c ∈ p.1, c ∈ f) → p.2 ∈ f) := by
      have hl : (addR f p).length = f.length := by omega
      unfold addR at hl ⊢
      by_cases c : inB p.1 f = true ∧ p.2 ∉ f
      · rw [if_pos c, List.length_append] at hl
        simp at hl
      · rw [if_neg c]
        refine ⟨rfl, fun hc => ?_⟩
        by_cases q : p.2 ∈ f
        · exact q
        · exact absurd ⟨inB_iff.mpr hc, q⟩ c
    have h4 : rs.foldl addR (addR f p) = rs.foldl addR f := by rw [e.1]
    obtain ⟨i1, i2⟩ := foldR_same rs f (by rw [← h4]; exact h3)
    refine ⟨h4.trans i1, fun q hq => ?_⟩
    rcases List.mem_cons.mp hq with z | hq
    · subst z; exact e.2
    · exact i2 q hq
end
end Pu
namespace Pu
open PySem PySem.Spec PyProof.Rows L2 SeqAt PuS
/-- while, by a number that each turn makes smaller -/
theorem n_while {c : WT} {body : WS} {env : En} {n k0 : Nat} {N : En → Nat → Prop} {R : PyData → Nat → Prop} {B C : En → Nat → Prop} (I : Nat → En → Nat → Prop) (h0 : I k0 env n)
    (step : ∀ k e m, I k e m → ME c e m fun t m1 => (t = true → ∃ k', k = k' + 1 ∧ MS body e m1 (fun e2 m2 => I k' e2 m2) R N (fun e2 m2 => I k' e2 m2)) ∧ (t = false → N e m1)) : MS (sWhile c body) env n N R B C := fun PD b hb kn kr kb kc => by
  have run : ∀ (k : Nat) (e : En) (m b : Nat), I k e m → m ≤ b → wWhile c body PD (k + 1) e b := by
    intro k
    induction k with
    | zero =>
      intro e m b hI hb
      show c e b _
      refine step 0 e m hI b _ hb fun t m1 b1 ⟨h1, h2⟩ hb1 => ?_
      cases t with
      | true => obtain ⟨k', e, _⟩ := h1 rfl; exact absurd e (by omega)
      | false => exact kn e m1 b1 (h2 rfl) hb1
    | succ k ih =>
      intro e m b hI hb
      show c e b _
      refine step (k + 1) e m hI b _ hb fun t m1 b1 ⟨h1, h2⟩ hb1 => ?_
      cases t with
      | true =>
        obtain ⟨k', ek, hm⟩ := h1 rfl
        have : k' = k := by omega
        subst this
        exact hm _ b1 hb1 (fun e2 m2 b2 q h => ih e2 m2 b2 q h) kr kn (fun e2 m2 b2 q h => ih e2 m2 b2 q h)
      | false => exact kn e m1 b1 (h2 rfl) hb1
  exact ⟨k0 + 1, run k0 env n b h0 hb⟩
end Pu
namespace Pu
open PySem PySem.Spec PyProof.Rows L2 SeqAt PuS
end Pu
namespace PuT
open PySem PySem.Spec PyProof.Rows L2 PuS Pu
section
variable {P : Program} {w : World} {A : Around} {E : Value → Shared → Prop} {s : Shared}
abbrev TKy (P : Program) (w : World) (h : Heap) (k : List Key) (a : Addr) : Prop := IsTupleKey (mixKind P w) h k a
abbrev hsh (P : Program) (w : World) (k : List Key) : Int := tupleKeyHash (mixKind P w) k
/-- an int or a text -/
def Sm (v : Value) : Prop := (∃ i t, v = .int i t) ∨ ∃ z t, v = .str z t
theorem _root_.L2.TabOk.same {t t2 : SetTable} {hs : List Int} (T : TabOk t hs) (e1 : t2.place = t.place) (e2 : t2.dummies = t.dummies) (e3 : t2.mask = t.mask) : TabOk t2 hs :=
  ⟨by rw [e1]; exact T.ris, e2.trans T.dm, by rw [e1]; exact T.sz, by rw [e3]; exact T.mok, by rw [e1, e3]; exact T.bd, by rw [e1, e3]; exact T.reach⟩
def rowOf (P : Program) (w : World) (q : Addr × List Key) : Int × Value := (hsh P w q.2, .ref q.1)
/-- the set at b: its members m (where, what), row for row -/
structure Lies (P : Program) (w : World) (h : Heap) (b : Addr) (m : List (Addr × List Key)) (rows : Array (Int × Value)) (e : Nat) (t : SetTable) : Prop where
  obj : ∃ o, h.get? b = some o ∧ o.ExactSet ∧ o.data = .set rows e t
  eqs : rows.toList = m.map (rowOf P w)
  good : TabOk t (m.map fun q => hsh P w q.2)
  once : (m.map (·.2)).Nodup
  each : ∀ q ∈ m, TKy P w h q.2 q.1
  ledg : w.params.followText "set-order" = true ∨ t.led = true
  air : m.length * 5 < t.mask * 3
  most : m.length < 64
variable {b : Addr} {m : List (Addr × List Key)} {rows : Array (Int × Value)} {e : Nat} {t : SetTable}
theorem eqs_len (h : rows.toList = m.map (rowOf P w)) : rows.size = m.length := by
  rw [← Array.length_toList, h, List.length_map]
theorem fit_of (sz : t.place.size = rows.size) (dm : t.dummies = #[]) (le : rows.size ≤ t.mask) : t.fits rows.size = true := by
  unfold SetTable.fits SetTable.fill
  rw [dm]
  simp only [Bool.and_eq_true, beq_iff_eq, decide_eq_true_eq, List.size_toArray, List.length_nil]
  exact ⟨sz, by omega⟩
theorem Lies.place (R : Lies P w s.heap b m rows e t) : t.place.size = m.length := R.good.sz.trans (List.length_map _)
theorem Lies.fit (R : Lies P w s.heap b m rows e t) : t.fits rows.size = true := fit_of (R.place.trans (eqs_len R.eqs).symm) R.good.dm (by have := eqs_len R.eqs; have := R.air; omega)
end
end PuT
namespace PuT
open PySem PySem.Spec PyProof.Rows L2 PuS Pu
end PuT
namespace PuT
open PySem PySem.Spec PyProof.Rows L2 PuS Pu
end PuT
namespace PuT
open PySem PySem.Spec PyProof.Rows L2 PuS Pu
end PuT
namespace Pu
open PySem PySem.Spec PyProof.Rows L2 PuS PuT
def tK (k : List Key) : PyData := .tuple (k.map kD)
def pLenSet2 : P1 := fun x P => (∃ ks, KeysD x ks ∧ ks.length + 1 < scanBound ∧ P (.int (dist ks).length)) ∨ ∃ ns : List (List Key), (x = .list (ns.map tK) ∨ x = .tuple (ns.map tK)) ∧ ns.length < 64 ∧ P (.int (dist ns).length)
end Pu
namespace Pu
open PySem PySem.Spec PyProof.Rows L2
def pRepr2 : P1 := fun d P => d.showable = true ∧ d.depth ≤ 40 ∧ d.shown.length ≤ sizeLine ∧ P (.str d.shown)
section
variable {X : Cx} {e : Expr} {te : WE} {p pos : Pos}
theorem e_repr2 (N : NoSys X) (hu : X.A.units + 64 < cLine) (hg : Gl X "repr") (hm : X.mg "repr" = none) (ha : EE X e te) (na : starEach [e] X.env = (false, eval e X.env) :: starEach [] X.env := by rfl) : EE X (.Call (.Name "repr" p) [e] [] pos) (w1 pRepr2 te) := by
  refine ⟨fun pins s σ H Q I h => ?_⟩
  refine Call_ (ld_blt I hg hm boot_repr ?_)
  obtain ⟨pn, F, env, b, P, rep, t, k⟩ := h
  refine PyProof.Rows.callWith_builtin1 (PyProof.Rows.args_cons (thn (ha.run pins s σ H (fun v H1 => ∃ d F1 b1, Ok pn b1 F1 H1 ∧ Ext pn F H F1 H1 ∧ RV X.K F1 v d ∧ pRepr2 d fun z => P z b1) I ⟨pn, F, env, b, _, rep, t, fun v d F1 H1 b1 o1 e1 rv q => ⟨d, F1, b1, o1, e1, rv, q⟩⟩) fun v s1 ⟨x, H1, I1, r1, q1⟩ => PyProof.Rows.args_nil ?_) na) na rfl
  obtain ⟨d, F1, b1, o1, e1, rv, sh, dp, ln, q⟩ := q1
  have last : ∀ (u : Tok) (tk : Nat), EP X pins σ Q (.str d.shown u) { s1 with toks := tk } := fun u tk => ⟨.str d.shown, H1, I1.tok tk, ⟨_, rfl⟩, k _ _ F1 H1 b1 o1 e1 (.str _) q⟩
  have four : (∃ a, v = .ref a) ∨ (v = .none ∧ d = .none) ∨ (∃ b, v = .bool b ∧ d = .bool b) ∨ (∃ i t, v = .int i t ∧ d = .int i) ∨ ∃ z t, v = .str z t ∧ d = .str z := by
    cases rv with
    | lst _ _ => exact .inl ⟨_, r1⟩
    | tup _ _ => exact .inl ⟨_, r1⟩
    | dct _ => exact .inl ⟨_, r1⟩
    | non => exact .inr (.inl ⟨r1, rfl⟩)
    | bl b => exact .inr (.inr (.inl ⟨b, r1, rfl⟩))
    | int i =>
      obtain ⟨t, e⟩ := r1
      exact .inr (.inr (.inr (.inl ⟨i, t, e, rfl⟩)))
    | str z =>
      obtain ⟨t, e⟩ := r1
      exact .inr (.inr (.inr (.inr ⟨z, t, e, rfl⟩)))
  rcases four with ⟨a, rfl⟩ | ⟨rfl, rfl⟩ | ⟨b, rfl, rfl⟩ | ⟨i, t, rfl, rfl⟩ | ⟨z, t, rfl, rfl⟩
  · obtain ⟨as, ra, hn⟩ := reads_of I1 o1.sub rv r1
    exact repr_of_reads' ra sh (fun _ => hn (N.now I1)) N.gd (by omega) (fun _ _ e => e) (fun h' u tk hk => ⟨.str d.shown, H1, I1.kept hk, ⟨_, rfl⟩, k _ _ F1 H1 b1 o1 e1 (.str _) q⟩) ln
  · exact PySem.P.repr_of_none (last _ _)
  · exact PySem.P.repr_of_bool (last _ _)
  · exact PySem.P.repr_of_int (of_decide_eq_true sh) (last _ _)
  · exact PySem.P.repr_of_str (last _ _) ln
end
theorem m_repr2 {ta : WE} {env : En} {n : Nat} {Q : PyData → Nat → Prop} {B D : Nat} (hB : B ≤ 100000) (hD : D ≤ 40) (h : ME ta env n fun x m => Fit B D x ∧ Q (.str x.shown) m) : ME (w1 pRepr2 ta) env n Q :=
  fun b P hb k => h b _ hb fun x m b1 ⟨hf, q⟩ hb1 => ⟨hf.shw, Nat.le_trans hf.deep hD, hf.shown hB, k _ m b1 q hb1⟩
end Pu
namespace Pu
open PySem PySem.Spec PyProof.Rows L2
end Pu
namespace Pu
open PySem PySem.Spec PyProof.Rows L2 PuS
end Pu
namespace Pu
open PySem PySem.Spec PyProof.Rows L2 PuS
section
variable {P : Program} {w : World} {A : Around} {E : Value → Shared → Prop} {s : Shared}
theorem sortedD {x : Value} {ds : List PyData} {R0 : Value → PyData → Prop} {Q : Value → Shared → Prop} (hr : ∀ v d, R0 v d → ∃ as, Reads s.heap v d as) (hal : W.AllAlike ds) (hk : W.Sortable ds) (hL : ds.length ≤ sizeLine) (hu : ∀ d ∈ ds, A.units + 4 + d.depth < cLine)
    (hc : ∀ (R : List Value → Shared → Prop), (∀ (s1 : Shared) (vs : List Value), (∀ b o, s.heap.get? b = some o → s1.heap.get? b = some o) → s1.gens = s.gens → s1.os = s.os → W.EachIs R0 vs ds → R vs s1) → wpAny (model P w) A.in1 (collect x) R E s)
    (ha : argsOk "sorted" ⟨[x], []⟩)
    (hQ : ∀ (s1 s' : Shared) (p : Addr) (out : Array Value) (c : Nat), (∀ b o, s.heap.get? b = some o → s1.heap.get? b = some o) → s1.gens = s.gens → s1.os = s.os → (∀ b o, s1.heap.get? b = some o → s'.heap.get? b = some o) → s'.gens = s1.gens → s'.os = s1.os → s1.heap.objs.size ≤ p → s'.heap.get? p = some (seqObj "list" out c) → W.EachIs R0 out.toList (ds.mergeSort (W.dataLe false id)) → Q (.ref p) s') :
    wpAny (model P w) A (call (.builtin "sorted") [x]) Q E s := by
  refine Calls.call_function_entry kind_sorted plain_sorted entry_sorted ha ?_
  unfold Builtin.«sorted»
  refine wpAny_bind (m := checkCount "sorted" 1 1 _) (wpAny_pure ?_)
  refine wpAny_bind (hc _ fun s1 vs k1 g1 o1 each => ?_)
  have lv : vs.length = ds.length := each.length
  refine wpAny_bind (wpAny_newList ?_ (by rw [lv]; exact hL))
  have hoL : (s1.heap.push (seqObj "list" vs.toArray 0)).get? s1.heap.objs.size = some (seqObj "list" vs.toArray 0) := Heap.get?_push_size _ rfl
  have up : ∀ b o, s.heap.get? b = some o → (W.sortingHeap (s1.heap.push (seqObj "list" vs.toArray 0)) s1.heap.objs.size vs).get? b = some o := fun b o e => by
    have e1 := k1 b o e
    exact W.sortingHeap_old (Nat.ne_of_lt (Heap.lt_size e1)) (Heap.get?_push_of_some _ e1)
  have er : W.EachIs (fun v d => ∃ as, Reads (W.sortingHeap (s1.heap.push (seqObj "list" vs.toArray 0)) s1.heap.objs.size vs) v (id d) as) vs ds := each.mono fun v d h => let ⟨as, r⟩ := hr v d h; ⟨as, PyProof.Rows.Reads.keeps up r⟩
  have hal2 : W.AllAlike (ds.map id) := by rw [List.map_id]; exact hal
  have hk2 : W.Sortable (ds.map id) := by rw [List.map_id]; exact hk
  refine wpAny_bind (wpAny_holding (wpAny_call_entry slot_list_sort ⟨_, hoL, rfl⟩ entry_list_sort (W.list_sort_vals (κ := W.dataKind (W.sortingHeap (s1.heap.push (seqObj "list" vs.toArray 0)) s1.heap.objs.size vs) (ds.map id)) hoL
    (W.SortsAt.data (s := { s1 with heap := W.sortingHeap (s1.heap.push (seqObj "list" vs.toArray 0)) s1.heap.objs.size vs }) (W.each_map (R := fun v d => ∃ as, Reads (W.sortingHeap (s1.heap.push (seqObj "list" vs.toArray 0)) s1.heap.objs.size vs) v d as) id er) hal2 hk2 (W.bound_map fun d hd => ?_)) (by rw [lv]; exact hL) ⟨_, rfl, ?_⟩) (args_list_sort _)))
  · have := hu d hd
    show A.units + 1 + 1 + d.depth < cLine
    omega
  · have so := W.sortVals_data false each er hal2
    generalize W.sortVals _ false vs vs = out at so ⊢
    obtain ⟨c, hcc⟩ := sortedHeap_at (vs := vs) (out := out.toArray) hoL
    refine wpAny_pure ⟨_, rfl, hQ s1 _ s1.heap.objs.size out.toArray c k1 g1 o1 (fun b u q => ?_) rfl rfl (Nat.le_refl _) hcc (by simpa using so)⟩
    have hlt := Heap.lt_size q
    show (sortedHeap (s1.heap.push (seqObj "list" vs.toArray 0)) s1.heap.objs.size vs out.toArray).get? b = some u
    rw [sortedHeap_old (Nat.ne_of_lt hlt) (by rw [size_push']; exact Nat.lt_succ_of_lt hlt)]
    exact Heap.get?_push_of_some _ q
end
/-- what a sorted thing holds -/
def itemsOf : PyData → Option (List PyData)
  | .list ds => some ds
  | .tuple ds => some ds
  | .str z => some (chS z)
  | _ => none
/-- ds in ascending order, equal ones as they stood -/
def srt (ds : List PyData) : List PyData := ds.mergeSort (W.dataLe false id)
def pSort : PyData → (List PyData → Prop) → Prop := fun x P => ∃ ds, itemsOf x = some ds ∧ W.AllAlike ds ∧ W.Sortable ds ∧ ds.length ≤ 100000 ∧ (∀ d ∈ ds, d.depth ≤ 40) ∧ P (srt ds)
section
variable {X : Cx} {pins : List (Addr × Obj)} {σ : L2.St} {F H : Hp} {s : Shared}
/-- a value that stands for a datum -/
def Stands (K : PySem.W.Frag) (F : Hp) (u : Value) (d : PyData) : Prop := ∃ v, RelV v u ∧ RV K F v d
theorem stands_of {K : PySem.W.Frag} : ∀ {vs : List V} {us : List Value} {ds : List PyData}, Vals vs us → RVs K F vs ds → W.EachIs (Stands K F) us ds
  | _, _, _, .nil, .nil => .nil
  | _, _, _, .cons r t, .cons q u => .cons ⟨_, r, q⟩ (stands_of t u)
theorem of_stands {K : PySem.W.Frag} : ∀ {us : List Value} {ds : List PyData}, W.EachIs (Stands K F) us ds → ∃ vs, Vals vs us ∧ RVs K F vs ds
  | _, _, .nil => ⟨[], .nil, .nil⟩
  | _, _, .cons ⟨v, r, q⟩ t => let ⟨vs, h1, h2⟩ := of_stands t; ⟨v :: vs, .cons r h1, .cons q h2⟩
theorem each_at {α β : Type} {R : α → β → Prop} : ∀ {us : List α} {ds : List β}, us.length = ds.length → (∀ (i : Nat) (u : α) (d : β), us[i]? = some u → ds[i]? = some d → R u d) → W.EachIs R us ds
  | [], [], _, _ => .nil
  | [], _ :: _, h, _ => nomatch h
  | _ :: _, [], h, _ => nomatch h
  | u :: us, d :: ds, h, k => .cons (k 0 u d rfl rfl) (each_at (Nat.succ.inj h) fun i x y e1 e2 => k (i + 1) x y (by simpa using e1) (by simpa using e2))
theorem stands_signs {K : PySem.W.Frag} {x : Str} {acc : Array Value} (h : ItemsOf (SignAt x) acc x.cps.size) : W.EachIs (Stands K F) acc.toList (chS x) := by
  refine each_at (by rw [Array.length_toList, h.1]; simp [chS]) fun i u d e1 e2 => ?_
  rw [Array.getElem?_toList] at e1
  obtain ⟨c, t, ec, rfl⟩ := h.2 i u e1
  simp only [chS, List.getElem?_map, Array.getElem?_toList, ec, Option.map_some, Option.some.injEq] at e2
  subst e2
  exact ⟨.str ⟨#[c]⟩, ⟨t, rfl⟩, .str _⟩
theorem boot_sorted2 : bootBuiltins "sorted" = some (.builtin "sorted") := by decide +kernel
theorem f_sortD {a : Expr} {ta : WE} {p pos : Pos} (hu : X.A.units + 64 < cLine) (hc : X.calm = true) (hg : Gl X "sorted") (hm : X.mg "sorted" = none) (ha : EB X a ta) (na : starEach [a] X.env = (false, eval a X.env) :: starEach [] X.env := by rfl) :
    EF X (.Call (.Name "sorted" p) [a] [] pos) (w1L pSort ta) := by
  refine ⟨fun pins s σ H Q I h => ?_⟩
  obtain ⟨pn, F, env, b, P, rep, t, k⟩ := h
  refine Call_ (ld_blt I hg hm boot_sorted2 ?_)
  refine PyProof.Rows.callWith_builtin1 (PyProof.Rows.args_cons (thn (ha.run pins s σ H (fun v H1 => ∃ d F1 b1, Ok pn b1 F1 H1 ∧ Ext pn F H F1 H1 ∧ BV X.K pn F1 H1 v d ∧ pSort d fun z => P z b1) I ⟨pn, F, env, b, _, rep, t, fun v d F1 H1 b1 o1 e1 rv q => ⟨d, F1, b1, o1, e1, rv, q⟩⟩) fun v s1 ⟨x, H1, I1, r1, q1⟩ => PyProof.Rows.args_nil ?_) na) na rfl
  obtain ⟨d, F1, b1, o1, e1, bv, ds, ei, al, so, ln, dp, q⟩ := q1
  have lz : ds.length ≤ sizeLine := by rw [sizeLine_eq]; omega
  refine sortedD (ds := ds) (R0 := Stands X.K F1) (fun u y ⟨w, rw_, rd⟩ => let ⟨as, ra, _⟩ := reads_of I1 o1.sub rd rw_; ⟨as, ra⟩) al so lz (fun y hy => by have := dp y hy; omega) (fun R hR => ?_) (args_sorted1 _) fun s2 s3 p out c k1 g1 z1 k2 g2 z2 hp ha2 ho => ?_
  · cases d with
    | list xs =>
      cases ei
      obtain ⟨l, vs, rfl, hl, rvs⟩ := bv.list o1
      cases r1
      obtain ⟨its, rv, pl, hz⟩ := I1.list (SqL.of hl)
      obtain ⟨o, e1, e2, n, e3⟩ := pl.isList
      exact wpAny_collect_seq l (.inl rfl) e1 e2 e3 (fun h' hk => hR _ _ (fun b u e => hk b u e) rfl rfl (by simpa using stands_of rv rvs)) (by rw [List.size_toArray, ← rv.length, rvs.len]; exact lz)
    | tuple xs =>
      cases ei
      obtain ⟨l, vs, rfl, hl, rvs⟩ := bv.tup o1
      cases r1
      obtain ⟨its, rv, ⟨o, e1, e2, n, e3⟩, hz⟩ := I1.tuple hl
      exact wpAny_collect_seq l (.inr rfl) e1 e2 e3 (fun h' hk => hR _ _ (fun b u e => hk b u e) rfl rfl (by simpa using stands_of rv rvs)) (by rw [List.size_toArray, ← rv.length, rvs.len]; exact lz)
    | str z =>
      cases ei
      have ev := bv.str
      subst ev
      obtain ⟨tk, rfl⟩ := r1
      refine wpAny_collect_str (by have := I1.ok.hd hc; simpa using this) z tk (fun s' acc kk g _ os it => hR _ _ kk g os (stands_signs it)) (by simpa [chS] using lz)
    | _ => cases ei
  · obtain ⟨ws, hv, hr⟩ := of_stands ho
    have hok2 : HOk X.prog X.w H1 s2.heap := I1.hok.kept k1
    have hn : H1 p = none := hok2.fresh hp
    have lw : ws.length ≤ sizeLine := by
      rw [hr.len]
      show (ds.mergeSort _).length ≤ sizeLine
      rw [List.length_mergeSort]
      exact lz
    have J : Inv X pins σ (upd H1 p (.lst ws)) s3 := I1.call' (ch := []) (z2.trans z1) (Un.trans (Un.kept k1) (Un.laid k2 hp hn)) (hok2.laid k2 hp ⟨lw, out.toList, c, hv, ha2⟩) (by rw [g2, g1]; exact I1.bare) (fun _ z => nomatch z)
    have g : GoL X.K pn b1 F1 H1 (fun d => P d b1) Q := fun w z F' H' o3 e3 rv nw pz => k w z F' H' b1 o3 (e1.trans e3) rv (fun a e => e1.back rep.ok o1 (nw a e)) pz
    exact ⟨.ref p, _, J, rfl, g.lst o1 hr q p hn⟩
end
end Pu
namespace Pu
open PySem PySem.Spec PyProof.Rows L2 PuS
section
variable {X : Cx} {pins : List (Addr × Obj)} {σ : L2.St} {H : Hp} {s : Shared}
theorem plT_raw (I : Inv X pins σ H s) {a : Addr} {xs : List V} (h : PlT X.K H a xs) : ∃ (its : List Value) (o : Obj) (n : Nat), Vals xs its ∧ s.heap.get? a = some o ∧ o.cls = .type "tuple" ∧ o.dict = none ∧ o.data = .seq its.toArray n := by
  rcases h with ⟨o, e, d⟩ | ⟨o, its, n, h1, h2, h3, h4, h5, h6⟩
  · obtain ⟨g, z, its, r, ⟨o', e1, c1, n, d1⟩⟩ := I.hok a _ e
    rw [g] at e1
    cases e1
    exact ⟨its, o, n, r, g, c1, d, d1⟩
  · exact ⟨its.toList, o, n, h5, I.kIn a o h1, h2, h6, by simpa using h3⟩
theorem pairs_raw (I : Inv X pins σ H s) : ∀ {ps : List Addr} {kvs : List (Key × V)}, Paired (fun p kv => SqT X.K H p [kV kv.1, kv.2]) ps kvs → ∃ (vs : List (Value × Value)) (prs : List (Key × Value)), KV kvs prs ∧ vs.length = ps.length ∧ prs.length = ps.length ∧
    (∀ (j : Nat) (k v : Value), vs[j]? = some (k, v) → (∃ b, ps[j]? = some b ∧ s.heap.IsTuple b #[k, v]) ∧ ∃ κ, prs[j]? = some (κ, v) ∧ (mixKind X.prog X.w).is κ k = true)
  | _, _, .nil => ⟨[], [], .nil, rfl, rfl, fun j k v e => by simp at e⟩
  | _, _, .cons (a := p) (b := kv) h t => by
    obtain ⟨vs, prs, r, l1, l2, each⟩ := pairs_raw I t
    obtain ⟨its, rv, ht, _⟩ := I.tuple h
    obtain ⟨u, y, ei, ru, ry⟩ := vals2 rv
    subst ei
    refine ⟨(u, y) :: vs, (kv.1, y) :: prs, .cons ⟨rfl, ry⟩ r, by simp [l1], by simp [l2], fun j k v e => ?_⟩
    cases j with
    | zero =>
      have e' : (u, y) = (k, v) := Option.some.inj e
      cases e'
      exact ⟨⟨p, rfl, ht⟩, kv.1, rfl, kV_is ru⟩
    | succ j =>
      obtain ⟨⟨b, e1, e2⟩, κ, e3, e4⟩ := each j k v (by simpa using e)
      exact ⟨⟨b, by simpa using e1, e2⟩, κ, by simpa using e3, e4⟩
def rDictT (K : PySem.W.Frag) : List V → Hp → VK → Prop := fun xs H Q => ∃ (a : Addr) (ps : List Addr) (kvs : List (Key × V)), xs = [.ref a] ∧ PlT K H a (ps.map V.ref) ∧ Paired (fun p kv => SqT K H p [kV kv.1, kv.2]) ps kvs ∧ kvs.length ≤ 100000 ∧
  ∀ p, H p = none → Q (.ref p) (upd H p (.dK (mergeK [] kvs)))
theorem call_dictT (hcalm : X.calm = true) : CallR X (.type "dict") (rDictT X.K) := by
  intro pins s σ H xs us Q I r ⟨a, ps, kvs, ex, hq, hp, few, q⟩
  subst ex
  obtain ⟨u, rfl, rx⟩ := vals1 r
  cases rx
  obtain ⟨its, o, n, rv, g, c, d, da⟩ := plT_raw I hq
  have ei := refs_at rv
  subst ei
  obtain ⟨vs, prs, rel, l1, l2, each⟩ := pairs_raw I hp
  have lk : kvs.length = prs.length := rel.length
  refine PySem.call_dict_pairs (knd := mixKind X.prog X.w) (kvs := prs) (PairArg.tuple a (ps.map Value.ref).toArray (fun j => ps.getD j 0) vs) (I.ok.hd hcalm) ⟨⟨o, n, g, c, d, da⟩, by simp [l1], fun j k v hj => ?_⟩ ⟨by rw [l1, l2], fun i k v hi => (each i k v hi).2⟩ (by rw [sizeLine_eq]; omega) fun h2 tk hd hk => ?_
  · obtain ⟨⟨b, e1, e2⟩, _⟩ := each j k v hj
    have e3 : ps.getD j 0 = b := by rw [List.getD_eq_getElem?_getD, e1, Option.getD_some]
    refine ⟨?_, .inl ?_⟩
    · show (ps.map Value.ref).toArray[j]? = some (Value.ref (ps.getD j 0))
      rw [e3]
      simp [e1]
    · show s.heap.IsTuple (ps.getD j 0) #[k, v]
      rw [e3]
      exact e2
  · have hm : (s.heap.objs.size == sysModules) = false := beq_eq_false_iff_ne.mpr (Nat.ne_of_gt I.big)
    have lm := length_mergeK kvs []
    rw [List.length_nil, Nat.zero_add] at lm
    exact ⟨.ref s.heap.objs.size, upd H s.heap.objs.size (.dK (mergeK [] kvs)), I.laid (t' := tk) (fun b u e => hk b u List.not_mem_nil e) (Nat.le_refl _) (show ObjOk X.prog X.w _ _ _ (.dK (mergeK [] kvs)) from ⟨by rw [sizeLine_eq]; omega, hm, merged [] prs, KV.merge rel .nil, hd⟩), rfl, q _ (I.hok.fresh (Nat.le_refl _))⟩
end
end Pu
namespace Pu
open PySem PySem.Spec PyProof.Rows L2 PuS
/-- what stands at a key -/
def lookS (xs : List (Str × PyData)) (s : Str) : Option PyData := (xs.find? fun p => decide (p.1 = s)).map (·.2)
def putS (xs : List (Str × PyData)) (s : Str) (d : PyData) : List (Str × PyData) := if (xs.any fun p => decide (p.1 = s)) = true then xs.map fun p => if p.1 = s then (p.1, d) else p else xs ++ [(s, d)]
def pairS (p : Str × PyData) : PyData := .tuple [.str p.1, p.2]
section
variable {K : PySem.W.Frag} {pn : Pn} {F H F0 H0 : Hp} {b : Nat} {env : En} {σ : L2.St}
theorem KVs.len : ∀ {vs : List (Key × V)} {xs : List (Str × PyData)}, KVs K F vs xs → vs.length = xs.length
  | _, _, .nil => rfl
  | _, _, .cons _ t => congrArg (· + 1) t.len
theorem KVs.get (s : Str) : ∀ {vs : List (Key × V)} {xs : List (Str × PyData)}, KVs K F vs xs → (∃ v d, valV vs (.inr s) = some v ∧ lookS xs s = some d ∧ RV K F v d) ∨ (valV vs (.inr s) = none ∧ lookS xs s = none)
  | _, _, .nil => .inr ⟨rfl, rfl⟩
  | _, _, .cons (x := x) (v := v) (d := d) r t => by
    by_cases e : x = s
    · subst e
      exact .inl ⟨v, d, by simp [valV, List.find?_cons], by simp [lookS, List.find?_cons], r⟩
    · have e1 : ¬ ((Sum.inr x : Key) = Sum.inr s) := fun z => e (Sum.inr.inj z)
      rcases t.get s with ⟨v', d', h1, h2, h3⟩ | ⟨h1, h2⟩
      · exact .inl ⟨v', d', by simpa [valV, List.find?_cons, e1, e] using h1, by simpa [lookS, List.find?_cons, e] using h2, h3⟩
      · exact .inr ⟨by simpa [valV, List.find?_cons, e] using h1, by simpa [lookS, List.find?_cons, e] using h2⟩
theorem KVs.any (s : Str) : ∀ {vs : List (Key × V)} {xs : List (Str × PyData)}, KVs K F vs xs → (vs.any fun kv => decide (kv.1 = .inr s)) = xs.any fun p => decide (p.1 = s)
  | _, _, .nil => rfl
  | _, _, .cons (x := x) r t => by
    rw [List.any_cons, List.any_cons, t.any s]
    congr 1
    exact decide_eq_decide.mpr ⟨fun z => Sum.inr.inj z, fun z => by rw [show x = s from z]⟩
theorem KVs.mapS {s : Str} {v : V} {d : PyData} (r : RV K F v d) : ∀ {vs : List (Key × V)} {xs : List (Str × PyData)}, KVs K F vs xs → KVs K F (vs.map fun kv => if kv.1 = .inr s then (kv.1, v) else kv) (xs.map fun p => if p.1 = s then (p.1, d) else p)
  | _, _, .nil => .nil
  | _, _, .cons (x := x) q t => by
    rw [List.map_cons, List.map_cons]
    by_cases e : x = s
    · subst e
      rw [if_pos rfl, if_pos rfl]
      exact .cons r (t.mapS r)
    · rw [if_neg (fun z => e (Sum.inr.inj z)), if_neg e]
      exact .cons q (t.mapS r)
theorem KVs.app {vs' : List (Key × V)} {xs' : List (Str × PyData)} (q : KVs K F vs' xs') : ∀ {vs : List (Key × V)} {xs : List (Str × PyData)}, KVs K F vs xs → KVs K F (vs ++ vs') (xs ++ xs')
  | _, _, .nil => q
  | _, _, .cons r t => .cons r (KVs.app q t)
theorem KVs.put {s : Str} {v : V} {d : PyData} (r : RV K F v d) {vs : List (Key × V)} {xs : List (Str × PyData)} (h : KVs K F vs xs) : KVs K F (putK vs (.inr s) v) (putS xs s d) := by
  unfold putK putS
  rw [h.any s]
  split
  · exact h.mapS r
  · exact KVs.app (.cons r .nil) h
theorem KVs.keys : ∀ {vs : List (Key × V)} {xs : List (Str × PyData)}, KVs K F vs xs → vs.map (fun kv => kV kv.1) = xs.map fun p => V.str p.1
  | _, _, .nil => rfl
  | _, _, .cons _ t => by rw [List.map_cons, List.map_cons, t.keys]; rfl
theorem RVs.keys : ∀ (xs : List (Str × PyData)), RVs K F (xs.map fun p => V.str p.1) (xs.map fun p => PyData.str p.1)
  | [] => .nil
  | p :: r => .cons (.str _) (RVs.keys r)
theorem putK_fresh {vs : List (Key × V)} {k : Key} {v : V} (h : k ∉ vs.map (·.1)) : putK vs k v = vs ++ [(k, v)] := by
  unfold putK
  rw [if_neg]
  intro z
  obtain ⟨p, hp, e⟩ := List.any_eq_true.mp z
  exact h (List.mem_map.mpr ⟨p, hp, of_decide_eq_true e⟩)
theorem mergeK_nodup : ∀ (kvs acc : List (Key × V)), ((acc ++ kvs).map (·.1)).Nodup → mergeK acc kvs = acc ++ kvs
  | [], acc, _ => by simp [mergeK]
  | p :: r, acc, h => by
    show mergeK (putK acc p.1 p.2) r = _
    have hn : p.1 ∉ acc.map (·.1) := fun z => by
      rw [List.map_append, List.map_cons, List.nodup_append] at h
      exact h.2.2 _ z _ List.mem_cons_self rfl
    rw [putK_fresh hn, mergeK_nodup r (acc ++ [p]) (by simpa using h)]
    simp
/-- a dict just made goes to a name -/
theorem RepS.setK (r : RepS K pn F0 H0 F H σ env b) {i : Nat} {v : V} {d : List (Str × PyData)} (ow : OwnK K pn F H v d) (new : ∀ a, v = .ref a → H0 a = none) : RepS K pn F0 H0 F H (σ.set i (some v)) (env.set i (some (.k d))) b := by
  have get1 : ∀ (j : Nat) (s : Sl), (env.set i (some (.k d)))[j]? = some (some s) → (j = i ∧ s = .k d ∧ j < σ.length) ∨ (j ≠ i ∧ env[j]? = some (some s)) := fun j s h => by
    by_cases e : j = i
    · subst e
      have hl : j < env.length := by have := (List.getElem?_eq_some_iff.mp h).1; simpa using this
      rw [List.getElem?_set_self hl] at h
      cases h
      exact .inl ⟨rfl, rfl, by rw [r.rep.len]; exact hl⟩
    · rw [List.getElem?_set_ne (Ne.symm e)] at h
      exact .inr ⟨e, h⟩
  have get2 : ∀ (j : Nat), j ≠ i → (σ.set i (some v))[j]? = σ[j]? := fun j e => List.getElem?_set_ne (Ne.symm e)
  have get3 : i < σ.length → (σ.set i (some v))[i]? = some (some v) := fun h => List.getElem?_set_self h
  refine ⟨⟨r.rep.ok, by simp [r.rep.len], fun j s h => ?_, fun j k a xs ys n h1 h2 h3 => ?_⟩, r.ext, fun j a s hs h1 h2 => ?_⟩
  · rcases get1 j s h with ⟨rfl, rfl, hl⟩ | ⟨e, h⟩
    · exact ⟨v, get3 hl, ow⟩
    · rw [get2 j e]; exact r.rep.slot j s h
  · rcases get1 j _ h1 with ⟨_, e, _⟩ | ⟨e, g1⟩
    · cases e
    · rw [get2 j e] at h3
      rcases h2 with h2 | h2
      · rcases get1 k _ h2 with ⟨_, e2, _⟩ | ⟨e2, g2⟩
        · cases e2
        · rw [get2 k e2]; exact r.rep.apart j k a xs ys n g1 (.inl g2) h3
      · rcases get1 k _ h2 with ⟨_, e2, _⟩ | ⟨e2, g2⟩
        · cases e2
        · rw [get2 k e2]; exact r.rep.apart j k a xs ys n g1 (.inr g2) h3
  · rcases get1 j _ h1 with ⟨rfl, _, hl⟩ | ⟨e, h1⟩
    · rw [get3 hl] at h2
      cases h2
      exact new a rfl
    · rw [get2 j e] at h2
      exact r.own j a s hs h1 h2
/-- other dicts are forgotten when one is written -/
def noK : Option Sl → Option Sl
  | some (.k _) => none
  | s => s
theorem noK_some {s : Option Sl} {t : Sl} (h : noK s = some t) : s = some t ∧ ∀ xs, t ≠ .k xs := by
  cases s with
  | none => cases h
  | some u => cases u with
    | k _ => cases h
    | _ => cases h; exact ⟨rfl, fun _ z => nomatch z⟩
theorem RepS.writeK (r : RepS K pn F0 H0 F H σ env b) {i : Nat} {xs ys : List (Str × PyData)} {a : Addr} {ws : List (Key × V)} (h : env[i]? = some (some (Sl.k xs))) (hs : σ[i]? = some (some (V.ref a))) (rv : KVs K F ws ys) :
    RepS K pn F0 H0 F (upd H a (.dK ws)) σ ((env.map noK).set i (some (.k ys))) b := by
  have il : i < env.length := (List.getElem?_eq_some_iff.mp h).1
  have il' : i < (env.map noK).length := by rw [List.length_map]; exact il
  obtain ⟨v, hv, ow⟩ := r.rep.slot i _ h
  rw [hs] at hv
  cases hv
  obtain ⟨a', vs, e, fa, np, nc, ha, _⟩ := ow
  cases e
  have n0 : H0 a = none := r.own i a _ rfl h hs
  have get : ∀ (j : Nat) (s : Sl), ((env.map noK).set i (some (.k ys)))[j]? = some (some s) → (j = i ∧ s = .k ys) ∨ (j ≠ i ∧ env[j]? = some (some s) ∧ ∀ zs, s ≠ .k zs) := fun j s hj => by
    by_cases e : j = i
    · subst e
      rw [List.getElem?_set_self il'] at hj
      cases hj
      exact .inl ⟨rfl, rfl⟩
    · rw [List.getElem?_set_ne (Ne.symm e), List.getElem?_map] at hj
      obtain ⟨o, h1, h2⟩ := Option.map_eq_some_iff.mp hj
      obtain ⟨h3, h4⟩ := noK_some h2
      subst h3
      exact .inr ⟨e, h1, h4⟩
  have keepO : ∀ {w : V} {zs : List PyData}, OwnL K pn F H w zs → OwnL K pn F (upd H a (.dK ws)) w zs := fun ⟨c, us, e, f, p, q, hc, rc⟩ => by
    subst e
    exact ⟨c, us, rfl, f, p, q, by rw [upd_ne (fun z => by rw [z, ha] at hc; exact nomatch hc)]; exact hc, rc⟩
  have pen' : PenIs pn b F (upd H a (.dK ws)) := by
    have kp := r.rep.ok.pen
    match pn, kp, np, nc with
    | none, _, _, _ => trivial
    | some (pa, ca), ⟨f1, f2, ne, cells, at_, cur, h1, h2, iv⟩, np, nc =>
      exact ⟨f1, f2, ne, cells, at_, cur, by rw [upd_ne (np pa ca rfl).symm]; exact h1, by rw [upd_ne (nc pa ca rfl).symm]; exact h2, iv⟩
  refine ⟨⟨⟨fun c o q => ?_, pen'⟩, by simp [r.rep.len], fun j s hj => ?_, fun j k c zs us n h1 h2 h3 => ?_⟩, ⟨r.ext.fsub, fun c o hc f p => ?_⟩, fun j c s hq h1 h2 => ?_⟩
  · rw [upd_ne (fun z => by rw [z, fa] at q; cases q)]; exact r.rep.ok.sub c o q
  · rcases get j s hj with ⟨rfl, rfl⟩ | ⟨e, hj, nk⟩
    · exact ⟨_, hs, a, ws, rfl, fa, np, nc, upd_same, rv⟩
    · obtain ⟨w, hw, sl⟩ := r.rep.slot j s hj
      refine ⟨w, hw, ?_⟩
      match s, sl, nk with
      | .d x, sl, _ => exact sl
      | .l zs, sl, _ => exact keepO sl
      | .r zs, sl, _ => exact keepO sl
      | .p, sl, _ => exact sl
      | .k zs, _, nk => exact absurd rfl (nk zs)
  · rcases get j _ h1 with ⟨_, e⟩ | ⟨_, h1, _⟩
    · cases e
    · rcases h2 with h2 | h2
      · rcases get k _ h2 with ⟨_, e⟩ | ⟨_, h2, _⟩
        · cases e
        · exact r.rep.apart j k c zs us n h1 (.inl h2) h3
      · rcases get k _ h2 with ⟨_, e⟩ | ⟨_, h2, _⟩
        · cases e
        · exact r.rep.apart j k c zs us n h1 (.inr h2) h3
  · obtain ⟨q1, q2⟩ := r.ext.keep c o hc f p
    exact ⟨by rw [upd_ne (fun z => by rw [z, n0] at hc; cases hc)]; exact q1, q2⟩
  · rcases get j _ h1 with ⟨rfl, _⟩ | ⟨_, h1, _⟩
    · rw [hs] at h2
      cases h2
      exact n0
    · exact r.own j c s hq h1 h2
end
end Pu
namespace Pu
open PySem PySem.Spec PyProof.Rows L2 PuS
section
variable {K : PySem.W.Frag} {pn : Pn} {F H F0 H0 : Hp} {b : Nat} {env : En} {σ : L2.St}
theorem pairs_of (s : Same F H) : ∀ {xs : List V} {kvs : List (Str × PyData)}, RVs K F xs (kvs.map pairS) → ∃ (ps : List Addr) (vs : List (Key × V)), xs = ps.map V.ref ∧ Paired (fun p kv => SqT K H p [kV kv.1, kv.2]) ps vs ∧ KVs K F vs kvs
  | _, [], .nil => ⟨[], [], rfl, .nil, .nil⟩
  | _, p :: r, .cons h t => by
    obtain ⟨ps, vs, e, pr, kv⟩ := pairs_of s (kvs := r) t
    subst e
    cases h with
    | tup hp rs =>
      cases rs with
      | cons r1 t1 => cases t1 with
        | cons r2 t2 => cases t2 with
          | nil => cases r1 with
            | str z => exact ⟨_ :: ps, (.inr p.1, _) :: vs, rfl, .cons (Same.tup s hp.sq) pr, .cons r2 kv⟩
theorem KVs.fsts : ∀ {vs : List (Key × V)} {xs : List (Str × PyData)}, KVs K F vs xs → vs.map (·.1) = xs.map fun p => Sum.inr p.1
  | _, _, .nil => rfl
  | _, _, .cons _ t => by rw [List.map_cons, List.map_cons, t.fsts]
theorem nodup_inr {xs : List (Str × PyData)} (h : (xs.map (·.1)).Nodup) : (xs.map fun p => (Sum.inr p.1 : Key)).Nodup := by
  have : (xs.map fun p => (Sum.inr p.1 : Key)) = (xs.map (·.1)).map Sum.inr := by rw [List.map_map]; rfl
  rw [this]
  exact h.map _ fun a c n z => n (Sum.inr.inj z)
theorem Ok.apartN (o : Ok pn b F H) {p : Addr} (hp : H p = none) : NotPen pn p ∧ ∀ pa ca, pn = some (pa, ca) → p ≠ ca := by
  refine ⟨fun pa ca e z => ?_, fun pa ca e z => ?_⟩
  · subst e; obtain ⟨_, _, _, _, _, _, h, _⟩ := o.pen; rw [← z, hp] at h; cases h
  · subst e; obtain ⟨_, _, _, _, _, _, _, h, _⟩ := o.pen; rw [← z, hp] at h; cases h
end
/-- dict(x), x a tuple of pairs -/
def dictOf (d : PyData) (kvs : List (Str × PyData)) : Prop := d = .tuple (kvs.map pairS) ∧ (kvs.map (·.1)).Nodup ∧ kvs.length ≤ 100000
def sDictK (t : WE) (i : Nat) : WS := fun PD env b => t env b fun d b' => ∃ kvs, dictOf d kvs ∧ PD.nx (env.set i (some (.k kvs))) b'
section
variable {X : Cx} {e : Expr} {te : WE} {p pos : Pos}
theorem boot_dict2 : bootBuiltins "dict" = some (.type "dict") := by decide +kernel
theorem boot_list2 : bootBuiltins "list" = some (.type "list") := by decide +kernel
theorem pe_dict (hc : X.calm = true) (hg : Gl X "dict") (hm : X.mg "dict" = none) (he : EB X e te) (na : starEach [e] X.env = (false, eval e X.env) :: starEach [] X.env := by rfl) :
    PE X (.Call (.Name "dict" p) [e] [] pos) (tCB (rDictT X.K) (tCons (lB X.K te) tNil)) := pe_callTy (call_dictT hc) hg hm boot_dict2 (pa_cons he pa_nil na) (he := na)
theorem dict_run {K : PySem.W.Frag} {σ : L2.St} {H : Hp} {Q : VK} (h : ∃ pn F env b P, Rep K pn F H σ env b ∧ te env b P ∧ ∀ d F' H' b', Ok pn b' F' H' → Ext pn F H F' H' → P d b' → ∃ kvs, dictOf d kvs ∧ ∀ p vs, H' p = none → NotPen pn p → (∀ pa ca, pn = some (pa, ca) → p ≠ ca) → KVs K F' vs kvs → Q (.ref p) (upd H' p (.dK vs))) :
    tCB (rDictT K) (tCons (lB K te) tNil) σ H Q := by
  obtain ⟨pn, F, env, b, P, rep, t, k⟩ := h
  refine ⟨pn, F, env, b, P, rep, t, fun v d F' H' b' o x bv q => ?_⟩
  obtain ⟨kvs, ⟨ed, nd, few⟩, k⟩ := k d F' H' b' o x q
  subst ed
  show rDictT K [v] H' Q
  rcases bv with bv | ⟨_, z, _⟩
  · cases bv with
    | tup h r =>
      obtain ⟨ps, vs, ex, pr, kv⟩ := pairs_of o.sub r
      subst ex
      refine ⟨_, ps, vs, rfl, h.mono o.sub, pr, by rw [kv.len]; exact few, fun q hq => ?_⟩
      rw [mergeK_nodup vs [] (by rw [List.nil_append, kv.fsts]; exact nodup_inr nd), List.nil_append]
      exact k q vs hq (o.apartN hq).1 (o.apartN hq).2 kv
  · cases z
variable {i : Nat} {x : Str} {cpos spos pos' : Pos}
theorem s_dictK (hc : X.calm = true) (hN : X.N.Nodup) (hi : X.N[i]? = some x) (hx : Loc X.env.scope x) (hg : Gl X "dict") (hm : X.mg "dict" = none) (he : EB X e te) (na : starEach [e] X.env = (false, eval e X.env) :: starEach [] X.env := by rfl) (hs : swapsWith (.Call (.Name "dict" p) [e] [] pos) (some (.Name x pos')) spos.line X.env = pure false := by rfl) (hf : X.fn x = true ∨ X.env.scope.names.lookup x = some .local := by first | exact .inl rfl | exact .inr rfl) :
    SS X (.Assign [.Name x pos'] (.Call (.Name "dict" p) [e] [] pos) spos) (sDictK te i) := PS.imp (ps_set hN hi hx (pe_dict hc hg hm he na) hs hf) fun D σ H ⟨pn, F0, H0, F, env, b, PD, rep, t, k, r⟩ =>
  dict_run ⟨pn, F, env, b, _, rep.rep, t, fun d F' H' b' o x ⟨kvs, hd, q⟩ => ⟨kvs, hd, fun p vs hp np nc kv => by
    have rep2 := (rep.ext' o x).ext' (o.own (o := .dK vs) hp) (.own hp)
    exact (k _ F' _ _ b' (rep2.setK (v := .ref p) ⟨p, vs, rfl, o.free hp, np, nc, upd_same, kv⟩ fun a ea => by cases ea; exact (rep.ext.trans x).bk o hp)).1 q⟩⟩
/-- x in d -/
def wKIn (te : WE) (i : Nat) (neg : Bool) : WE := fun env b P => te env b fun y b1 => match y, env[i]? with
  | .str s, some (some (.k kvs)) => P (.bool (neg ^^ (lookS kvs s).isSome)) b1
  | _, _ => False
theorem kin_run {K : PySem.W.Frag} {σ : L2.St} {H : Hp} {Q : VK} (h : lE K (wKIn te i false) σ H Q) : tDIn (lB K te) (tVar i) σ H Q := by
  obtain ⟨pn, F, env, b, P, rep, t, k⟩ := h
  refine ⟨pn, F, env, b, _, rep, t, fun v d F1 H1 b1 o1 x1 bv q => ?_⟩
  split at q
  · rename_i s kvs ek
    obtain ⟨w, hw, a, vs, rfl, fa, np, nc, ha, kv⟩ := (rep.ext o1 x1).slot i _ ek
    refine ⟨_, hw, ?_⟩
    have ev := bv.str
    subst ev
    rcases kv.get s with ⟨u, dd, g1, g2, _⟩ | ⟨g1, g2⟩
    · exact ⟨a, some u, rfl, .inl ⟨vs, .inr s, .inl ha, rfl, g1.symm⟩, k _ _ F1 H1 b1 o1 x1 (.bl _) (by rw [g2] at q; simpa using q)⟩
    · exact ⟨a, none, rfl, .inl ⟨vs, .inr s, .inl ha, rfl, g1.symm⟩, k _ _ F1 H1 b1 o1 x1 (.bl _) (by rw [g2] at q; simpa using q)⟩
  · exact q.elim
theorem t_kin (hu : X.A.units + 64 < cLine) {o : Expr} (ho : PE X o (tVar i)) (he : EB X e te) (hm : behindInMarks .In o = false := by rfl) : ET X (.Compare e [.In] [o] pos) (wTt (wKIn te i false)) := PT.imp (pt_cmp (pc_din (by omega) he ho) hm) fun _ _ _ h => kin_run (tt_of h)
/-- d[x] -/
def wKGet (te : WE) (i : Nat) : WE := fun env b P => match env[i]? with
  | some (some (.k kvs)) => te env b fun y b1 => match y with
    | .str s => (match lookS kvs s with | some d => P d b1 | none => False)
    | _ => False
  | _ => False
theorem e_kget (hu : X.A.units + 64 < cLine) {o : Expr} (ho : PE X o (tVar i)) (he : EB X e te) (hs : NoSl e := by intro _ _; rfl) : EE X (.Subscript o e pos) (wKGet te i) := PE.imp (pe_dget (by omega) ho he hs) fun σ H Q ⟨pn, F, env, b, P, rep, t, k⟩ => by
  unfold wKGet at t
  split at t
  · rename_i kvs ek
    obtain ⟨w, hw, sl⟩ := rep.slot i _ ek
    refine ⟨w, hw, pn, F, env, b, _, rep, t, fun v d F1 H1 b1 o1 x1 bv q => ?_⟩
    obtain ⟨a, vs, rfl, fa, np, nc, ha, kv⟩ := OwnK.ext sl x1
    cases d with
    | str s =>
      have q : (match lookS kvs s with | some d => P d b1 | none => False) := q
      have ev := bv.str
      subst ev
      rcases kv.get s with ⟨u, dd, g1, g2, g3⟩ | ⟨g1, g2⟩
      · rw [g2] at q
        exact ⟨a, u, rfl, .inl ⟨vs, .inr s, .inl ha, rfl, g1.symm⟩, k _ _ F1 H1 b1 o1 x1 g3 q⟩
      · rw [g2] at q
        exact q.elim
    | _ => exact q.elim
  · exact t.elim
/-- d[x] = e -/
def sKSet (i : Nat) (tk te : WE) : WS := fun PD env b => match env[i]? with
  | some (some (.k xs)) => te env b fun d b1 => tk env b1 fun y b2 => match y with
    | .str s => xs.length < sizeLine ∧ PD.nx ((env.map noK).set i (some (.k (putS xs s d)))) b2
    | _ => False
  | _ => False
theorem s_kset (hu : X.A.units + 64 < cLine) {ek : Expr} {tk : WE} {tpos : Pos} (h : PE X (.Name x p) (tVar i)) (he : EE X e te) (hk : EB X ek tk)
    (ha : ∀ v, assign (.Subscript (.Name x p) ek tpos) X.env v = (do
      let ov ← holding [v] (eval (.Name x p) X.env)
      let iv ← holding [v, ov] (eval ek X.env)
      standAt tpos
      holding [v, ov, iv] (setItem ov iv v)
      release [v, ov, iv] []) := by intro _; rfl)
    (hs : swapsWithSole [.Subscript (.Name x p) ek tpos] e pos.line X.env = pure false := by rfl) (hw : swappedStores [.Subscript (.Name x p) ek tpos] e X.env = pure none := by rfl) (h1 : (assignEach [.Subscript (.Name x p) ek tpos] X.env).map (·.2) = [assign (.Subscript (.Name x p) ek tpos) X.env] := by rfl) :
    SS X (.Assign [.Subscript (.Name x p) ek tpos] e pos) (sKSet i tk te) :=
  PS.imp (ps_asg he (pg_sub h hk (set_dict (by omega)) ha) hs hw h1) fun D σ H ⟨pn, F0, H0, F, env, b, PD, rep, t, k, r⟩ => by
    unfold sKSet at t
    split at t
    · rename_i xs hx
      obtain ⟨v, hv, ow⟩ := rep.rep.slot i _ hx
      refine ⟨pn, F, env, b, _, rep.rep, t, fun w d F1 H1 b1 o1 x1 rv t1 => ?_⟩
      have ow1 := OwnK.ext ow x1
      have rep1 := rep.ext' o1 x1
      obtain ⟨a, vs, rfl, fa, np, nc, ha, kv⟩ := id ow1
      refine ⟨.ref a, hv, pn, F1, env, b1, _, rep1.rep, t1, fun u kk F2 H2 b2 o2 x2 bu t2 => ?_⟩
      obtain ⟨ha2, fa2⟩ := x2.keep a _ ha fa np
      cases kk with
      | str s =>
        obtain ⟨lz, t2⟩ : xs.length < sizeLine ∧ _ := t2
        have ev := bu.str
        subst ev
        refine ⟨a, _, rfl, .inl ⟨vs, .inr s, ha2, rfl, by rw [kv.len]; exact lz, rfl⟩, ?_⟩
        exact (k σ F2 _ _ b2 ((rep1.ext' o2 x2).writeK hx hv ((kv.mono x2.fsub).put (rv.mono x2.fsub)))).1 t2
      | _ => exact t2.elim
    · exact t.elim
/-- list(d) -/
def wKList (i : Nat) : WF := fun env b P => match env[i]? with
  | some (some (.k xs)) => P (xs.map fun p => .str p.1) b
  | _ => False
theorem f_klist (hc : X.calm = true) (hg : Gl X "list") (hm : X.mg "list" = none) {o : Expr} (ho : PE X o (tVar i)) (na : starEach [o] X.env = (false, eval o X.env) :: starEach [] X.env := by rfl) :
    EF X (.Call (.Name "list" p) [o] [] pos) (wKList i) := PE.imp (pe_callTy (call_list_dK hc) hg hm boot_list2 (pa_cons ho pa_nil na) (he := na)) fun σ H Q ⟨pn, F, env, b, P, rep, t, k⟩ => by
  unfold wKList at t
  split at t
  · rename_i xs hx
    obtain ⟨v, hv, a, vs, rfl, fa, np, nc, ha, kv⟩ := rep.slot i _ hx
    refine ⟨.ref a, hv, a, vs, rfl, ha, ?_⟩
    rw [kv.keys]
    exact GoL.lst (P := fun d => P d b) (fun w z F' H' o e rv nw q => k w z F' H' b o e rv nw q) rep.ok (RVs.keys xs) t
  · exact t.elim
/-- dict(x).get(c, z) -/
def wDGet (te tc tz : WE) : WE := fun env b P => te env b fun d b1 => ∃ kvs, dictOf d kvs ∧ tc env b1 fun y b2 => match y with
  | .str s => tz env b2 fun z b3 => P ((lookS kvs s).getD z) b3
  | _ => False
theorem e_dget2 (hu : X.A.units + 64 < cLine) (hc : X.calm = true) (hg : Gl X "dict") (hm : X.mg "dict" = none) {e2 e3 : Expr} {tc tz : WE} {apos : Pos} (he : EB X e te) (h2 : EB X e2 tc) (h3 : EE X e3 tz)
    (m : M2 X (.Call (.Name "dict" p) [e] [] pos) "get" apos e2 e3 cpos) (na : starEach [e] X.env = (false, eval e X.env) :: starEach [] X.env := by rfl) :
    EE X (.Call (.Attribute (.Call (.Name "dict" p) [e] [] pos) "get" apos) [e2, e3] [] cpos) (wDGet te tc tz) := PE.imp (pe_dget2 (by omega) (pe_dict hc hg hm he na) h2 h3 m) fun σ H Q ⟨pn, F, env, b, P, rep, t, k⟩ => by
  refine dict_run ⟨pn, F, env, b, _, rep, t, fun d F1 H1 b1 o1 x1 ⟨kvs, hd, t1⟩ => ⟨kvs, hd, fun p vs hp np nc kv => ?_⟩⟩
  have o2 := o1.own (o := .dK vs) hp
  have x2 : Ext pn F1 H1 F1 (upd H1 p (.dK vs)) := .own hp
  have rep2 := (rep.ext o1 x1).ext o2 x2
  have fp := o1.free hp
  refine ⟨p, rfl, .inl ⟨vs, .inl upd_same⟩, pn, F1, env, b1, _, rep2, t1, fun v y F3 H3 b3 o3 x3 bv t3 => ?_⟩
  cases y with
  | str s =>
    have ev := bv.str
    subst ev
    refine ⟨pn, F3, env, b3, _, rep2.ext o3 x3, t3, fun u z F4 H4 b4 o4 x4 rz t4 => ?_⟩
    obtain ⟨h3', f3⟩ := x3.keep p _ upd_same fp np
    obtain ⟨h4, f4⟩ := x4.keep p _ h3' f3 np
    have xx := x1.trans (x2.trans (x3.trans x4))
    rcases (kv.mono (x3.fsub.trans x4.fsub)).get s with ⟨w, dd, g1, g2, g3⟩ | ⟨g1, g2⟩
    · refine ⟨some w, .inl ⟨vs, .inr s, .inl h4, rfl, g1.symm⟩, k _ _ F4 H4 b4 o4 xx g3 ?_⟩
      rw [g2] at t4
      exact t4
    · refine ⟨none, .inl ⟨vs, .inr s, .inl h4, rfl, g1.symm⟩, k _ _ F4 H4 b4 o4 xx rz ?_⟩
      rw [g2] at t4
      exact t4
  | _ => exact t3.elim
end
end Pu
namespace Pu
open PySem PySem.Spec PyProof.Rows L2 PuS
section
variable {P : Program} {w : World} {A : Around} {E : Value → Shared → Prop} {s : Shared}
/-- as sortedD, where what is collected may be new -/
theorem sortedG {x : Value} {ds : List PyData} {K : Shared → (Value → PyData → Prop) → Prop} {Q : Value → Shared → Prop} (hr : ∀ s1 R0, K s1 R0 → ∀ v d, R0 v d → ∃ as, Reads s1.heap v d as) (hal : W.AllAlike ds) (hk : W.Sortable ds) (hL : ds.length ≤ sizeLine) (hu : ∀ d ∈ ds, A.units + 4 + d.depth < cLine)
    (hc : ∀ (R : List Value → Shared → Prop), (∀ (s1 : Shared) (vs : List Value) (R0 : Value → PyData → Prop), K s1 R0 → W.EachIs R0 vs ds → R vs s1) → wpAny (model P w) A.in1 (collect x) R E s)
    (ha : argsOk "sorted" ⟨[x], []⟩)
    (hQ : ∀ (s1 s' : Shared) (R0 : Value → PyData → Prop) (p : Addr) (out : Array Value) (c : Nat), K s1 R0 → (∀ b o, s1.heap.get? b = some o → s'.heap.get? b = some o) → s'.gens = s1.gens → s'.os = s1.os → s1.heap.objs.size ≤ p → s'.heap.get? p = some (seqObj "list" out c) → W.EachIs R0 out.toList (ds.mergeSort (W.dataLe false id)) → Q (.ref p) s') :
    wpAny (model P w) A (call (.builtin "sorted") [x]) Q E s := by
  refine Calls.call_function_entry kind_sorted plain_sorted entry_sorted ha ?_
  unfold Builtin.«sorted»
  refine wpAny_bind (m := checkCount "sorted" 1 1 _) (wpAny_pure ?_)
  refine wpAny_bind (hc _ fun s1 vs R0 k1 each => ?_)
  have lv : vs.length = ds.length := each.length
  refine wpAny_bind (wpAny_newList ?_ (by rw [lv]; exact hL))
  have hoL : (s1.heap.push (seqObj "list" vs.toArray 0)).get? s1.heap.objs.size = some (seqObj "list" vs.toArray 0) := Heap.get?_push_size _ rfl
  have up : ∀ b o, s1.heap.get? b = some o → (W.sortingHeap (s1.heap.push (seqObj "list" vs.toArray 0)) s1.heap.objs.size vs).get? b = some o := fun b o e1 => by
    exact W.sortingHeap_old (Nat.ne_of_lt (Heap.lt_size e1)) (Heap.get?_push_of_some _ e1)
  have er : W.EachIs (fun v d => ∃ as, Reads (W.sortingHeap (s1.heap.push (seqObj "list" vs.toArray 0)) s1.heap.objs.size vs) v (id d) as) vs ds := each.mono fun v d h => let ⟨as, r⟩ := hr s1 R0 k1 v d h; ⟨as, PyProof.Rows.Reads.keeps up r⟩
  have hal2 : W.AllAlike (ds.map id) := by rw [List.map_id]; exact hal
  have hk2 : W.Sortable (ds.map id) := by rw [List.map_id]; exact hk
  refine wpAny_bind (wpAny_holding (wpAny_call_entry slot_list_sort ⟨_, hoL, rfl⟩ entry_list_sort (W.list_sort_vals (κ := W.dataKind (W.sortingHeap (s1.heap.push (seqObj "list" vs.toArray 0)) s1.heap.objs.size vs) (ds.map id)) hoL
    (W.SortsAt.data (s := { s1 with heap := W.sortingHeap (s1.heap.push (seqObj "list" vs.toArray 0)) s1.heap.objs.size vs }) (W.each_map (R := fun v d => ∃ as, Reads (W.sortingHeap (s1.heap.push (seqObj "list" vs.toArray 0)) s1.heap.objs.size vs) v d as) id er) hal2 hk2 (W.bound_map fun d hd => ?_)) (by rw [lv]; exact hL) ⟨_, rfl, ?_⟩) (args_list_sort _)))
  · have := hu d hd
    show A.units + 1 + 1 + d.depth < cLine
    omega
  · have so := W.sortVals_data false each er hal2
    generalize W.sortVals _ false vs vs = out at so ⊢
    obtain ⟨c, hcc⟩ := sortedHeap_at (vs := vs) (out := out.toArray) hoL
    refine wpAny_pure ⟨_, rfl, hQ s1 _ R0 s1.heap.objs.size out.toArray c k1 (fun b u q => ?_) rfl rfl (Nat.le_refl _) hcc (by simpa using so)⟩
    have hlt := Heap.lt_size q
    show (sortedHeap (s1.heap.push (seqObj "list" vs.toArray 0)) s1.heap.objs.size vs out.toArray).get? b = some u
    rw [sortedHeap_old (Nat.ne_of_lt hlt) (by rw [size_push']; exact Nat.lt_succ_of_lt hlt)]
    exact Heap.get?_push_of_some _ q
end
def putG (G H : Hp) : Hp := fun b => match G b with
  | some u => some u
  | none => H b
section
variable {h' : Heap}
def TupAt (h' : Heap) (a : Addr) (ob : Obj) (xs : List V) : Prop := ∃ its, ob = tupO its ∧ h'.get? a = some (tupO its) ∧ Vals xs its ∧ xs.length ≤ sizeLine
theorem lays {as : List Addr} {xss : List (List V)} (nd : as.Nodup) (hp : Paired (fun a xs => ∃ ob, TupAt h' a ob xs) as xss) :
    ∃ G : Hp, (∀ b, b ∉ as → G b = none) ∧ Paired (fun a xs => ∃ ob, G a = some (.frz ob (.tup xs)) ∧ ob.dict = none) as xss ∧ ∀ b u, G b = some u → b ∈ as ∧ ∃ ob xs, u = .frz ob (.tup xs) ∧ TupAt h' b ob xs := by
  induction hp with
  | nil => exact ⟨fun _ => none, fun _ _ => rfl, .nil, fun b u e => nomatch e⟩
  | @cons a xs as xss h t ih =>
    obtain ⟨ob, h⟩ := h
    obtain ⟨G, g1, g2, g3⟩ := ih (List.nodup_cons.mp nd).2
    have na := (List.nodup_cons.mp nd).1
    refine ⟨fun b => if b = a then some (.frz ob (.tup xs)) else G b, fun b hb => ?_, .cons ⟨ob, if_pos rfl, ?_⟩ ?_, fun b u e => ?_⟩
    · show (if b = a then some (HO.frz ob (.tup xs)) else G b) = none
      rw [if_neg (fun z => hb (by rw [z]; exact List.mem_cons_self))]
      exact g1 b fun z => hb (List.mem_cons_of_mem _ z)
    · obtain ⟨its, e, _⟩ := h
      rw [e]
    · have : ∀ {bs : List Addr} {yss : List (List V)}, (∀ b ∈ bs, b ≠ a) → Paired (fun a xs => ∃ ob, G a = some (.frz ob (.tup xs)) ∧ ob.dict = none) bs yss → Paired (fun c xs' => ∃ ob', (if c = a then some (HO.frz ob (.tup xs)) else G c) = some (.frz ob' (.tup xs')) ∧ ob'.dict = none) bs yss := by
        intro bs yss hne hp
        induction hp with
        | nil => exact .nil
        | cons h _ ih =>
          refine .cons ?_ (ih fun b hb => hne b (List.mem_cons_of_mem _ hb))
          rw [if_neg (hne _ List.mem_cons_self)]
          exact h
      exact this (fun b hb z => na (by rw [← z]; exact hb)) g2
    · have e : (if b = a then some (HO.frz ob (.tup xs)) else G b) = some u := e
      by_cases z : b = a
      · subst z
        rw [if_pos rfl] at e
        cases e
        exact ⟨List.mem_cons_self, ob, xs, rfl, h⟩
      · rw [if_neg z] at e
        obtain ⟨q1, q2⟩ := g3 b u e
        exact ⟨List.mem_cons_of_mem _ q1, q2⟩
end
section
variable {X : Cx} {pins : List (Addr × Obj)} {σ : L2.St} {F H G : Hp} {s : Shared} {h' : Heap} {tk : Nat} {as : List Addr} {pn : Pn} {b : Nat}
theorem putG_in (I : Inv X pins σ H s) (hk : ∀ b o, s.heap.get? b = some o → h'.get? b = some o) (lo : ∀ a ∈ as, s.heap.objs.size ≤ a) (g3 : ∀ b u, G b = some u → b ∈ as ∧ ∃ ob xs, u = .frz ob (.tup xs) ∧ TupAt h' b ob xs) :
    Inv X pins σ (putG G H) { s with heap := h', toks := tk } := by
  have new : ∀ t ∈ as, H t = none := fun t ht => I.hok.fresh (lo t ht)
  have kp : ∀ b u, H b = some u → putG G H b = some u := fun b u e => by
    unfold putG
    cases g : G b with
    | some u' => rw [new b (g3 b u' g).1] at e; cases e
    | none => exact e
  refine I.call' (ch := []) rfl ⟨fun b o q _ _ _ => hk b o q, fun b o q _ _ _ => ⟨o.slots, hk b o q⟩, fun b o q n _ => ?_, fun b o q _ => ⟨o, hk b o q⟩, fun b xs q => kp b _ q, fun b o u q => kp b _ q, fun b ps q => ⟨#[], by rw [kp b _ q]; simp⟩⟩ (fun b u q => ?_) I.bare fun b z => by simp at z
  · unfold putG
    cases g : G b with
    | some u' => exact absurd (Heap.lt_size q) (Nat.not_lt.mpr (lo b (g3 b u' g).1))
    | none => exact n
  · unfold putG at q
    cases g : G b with
    | some u' =>
      rw [g] at q
      cases q
      obtain ⟨_, ob, xs, e, its, eo, h1, h2, h3⟩ := g3 b u g
      subst e eo
      exact ⟨h1, h3, its, h2, ⟨_, h1, rfl, _, rfl⟩⟩
    | none =>
      rw [g] at q
      exact (I.hok b u q).stay (fun d v _ y => hk d v y) (fun d y => kp d _ y) fun d xs y => kp d _ y
theorem putG_ok (o : Ok pn b F H) (new : ∀ t ∈ as, H t = none) (g3 : ∀ b u, G b = some u → b ∈ as ∧ ∃ ob xs, u = .frz ob (.tup xs) ∧ TupAt h' b ob xs) : Ok pn b (putG G F) (putG G H) ∧ Ext pn F H (putG G F) (putG G H) := by
  have gn : ∀ c u, H c = some u → G c = none := fun c u e => by
    cases g : G c with
    | some u' => rw [new c (g3 c u' g).1] at e; cases e
    | none => rfl
  refine ⟨⟨fun c u e => ?_, ?_⟩, ⟨fun c u e => ?_, fun c u e f n => ?_⟩⟩
  · unfold putG at e ⊢
    cases g : G c with
    | some u' => rw [g] at e; exact e
    | none => rw [g] at e; exact o.sub c u e
  · have kp := o.pen
    match pn, kp with
    | none, _ => trivial
    | some (pa, ca), ⟨f1, f2, ne, cells, at_, cur, h1, h2, iv⟩ =>
      have n1 := gn pa _ h1
      have n2 := gn ca _ h2
      exact ⟨by unfold putG; rw [n1]; exact f1, by unfold putG; rw [n2]; exact f2, ne, cells, at_, cur, by unfold putG; rw [n1]; exact h1, by unfold putG; rw [n2]; exact h2, iv⟩
  · unfold putG
    rw [gn c u (o.sub c u e)]
    exact e
  · unfold putG
    rw [gn c u e]
    exact ⟨e, f⟩
end
section
variable {X : Cx}
def rItemsK : V → List V → Hp → VK → Prop := fun x xs H Q => ∃ (a : Addr) (kvs : List (Key × V)), x = .ref a ∧ xs = [] ∧ H a = some (.dK kvs) ∧ ∀ p, H p = none → Q (.ref p) (upd H p (DX.itemsO p a))
theorem mt_itemsK : MtR X "dict.items" rItemsK := by
  intro pins s σ H x xs v us Q I rx rxs h
  obtain ⟨a, kvs, rfl, rfl, ha, q⟩ := h
  cases rx
  cases rxs
  obtain ⟨z, hd, vs, rel, o, es, ep, ho, hx, hdat, _⟩ := dk_of I.hok ha
  refine DT.callItems (es := es) (ep := ep) hd ⟨o, ho, hx, hdat⟩ ?_
  have hf : H s.heap.objs.size = none := I.hok.fresh (Nat.le_refl _)
  exact ⟨.ref s.heap.objs.size, upd H s.heap.objs.size (DX.itemsO s.heap.objs.size a), I.laid (t' := s.toks) (fun b u e => Heap.get?_push_of_some _ e) (Nat.le_refl _) (DX.itemsO_ok (Heap.get?_push_size _ rfl)), rfl, q _ hf⟩
end
end Pu
namespace Pu
open PySem PySem.Spec PyProof.Rows L2 PuS
theorem paired_at {α β : Type} {R : α → β → Prop} : ∀ {us : List α} {ds : List β}, us.length = ds.length → (∀ (i : Nat) (u : α) (d : β), us[i]? = some u → ds[i]? = some d → R u d) → Paired R us ds
  | [], [], _, _ => .nil
  | [], _ :: _, h, _ => nomatch h
  | _ :: _, [], h, _ => nomatch h
  | u :: us, d :: ds, h, k => .cons (k 0 u d rfl rfl) (paired_at (Nat.succ.inj h) fun i x y e1 e2 => k (i + 1) x y (by simpa using e1) (by simpa using e2))
theorem paired_get' {α β : Type} {R : α → β → Prop} : ∀ {us : List α} {ds : List β}, Paired R us ds → ∀ (i : Nat) (u : α) (d : β), us[i]? = some u → ds[i]? = some d → R u d
  | _, _, .nil, i, u, d, h, _ => by simp at h
  | _, _, .cons r _, 0, u, d, h1, h2 => by simp at h1 h2; subst h1 h2; exact r
  | _, _, .cons _ t, i + 1, u, d, h1, h2 => paired_get' t i u d (by simpa using h1) (by simpa using h2)
theorem KVs.get' {K : PySem.W.Frag} {F : Hp} : ∀ {vs : List (Key × V)} {xs : List (Str × PyData)}, KVs K F vs xs → ∀ (i : Nat) (q : Key × V) (p : Str × PyData), vs[i]? = some q → xs[i]? = some p → q.1 = .inr p.1 ∧ RV K F q.2 p.2
  | _, _, .nil, i, q, p, h, _ => by simp at h
  | _, _, .cons r _, 0, q, p, h1, h2 => by simp at h1 h2; subst h1 h2; exact ⟨rfl, r⟩
  | _, _, .cons _ t, i + 1, q, p, h1, h2 => t.get' i q p (by simpa using h1) (by simpa using h2)
def wKSort (i : Nat) : WF := fun env b P => match env[i]? with
  | some (some (.k kvs)) => pSort (.list (kvs.map pairS)) fun z => P z b
  | _ => False
section
variable {X : Cx} {i : Nat} {o : Expr} {p pos apos cpos : Pos}
theorem f_ksort (hu : X.A.units + 64 < cLine) (hc : X.calm = true) (hg : Gl X "sorted") (hm : X.mg "sorted" = none) (ho : PE X o (tVar i)) (hbase : attributeBase o "items" X.env (eval o X.env) = eval o X.env := by rfl) (hline : (apos.endLine == cpos.line) = true := by rfl)
    (na : starEach [.Call (.Attribute o "items" apos) [] [] cpos] X.env = (false, eval (.Call (.Attribute o "items" apos) [] [] cpos) X.env) :: starEach [] X.env := by rfl) :
    EF X (.Call (.Name "sorted" p) [.Call (.Attribute o "items" apos) [] [] cpos] [] pos) (wKSort i) := by
  refine ⟨fun pins s σ H Q I h => ?_⟩
  obtain ⟨pn, F, env, b, P, rep, t, k⟩ := h
  unfold wKSort at t
  split at t
  · rename_i kvs ek
    obtain ⟨v, hv, a, vsV, rfl, fa, np, nc, ha, kv⟩ := rep.slot i _ ek
    have hit : PE X (.Call (.Attribute o "items" apos) [] [] cpos) (tBM0 X.K "dict" rItemsK (tVar i)) := pe_bm0 PySem.F.plainAttrs_dict PySem.F.slot_dict_items PySem.F.type_dict_items mt_itemsK ho hbase hline
    refine Call_ (ld_blt I hg hm boot_sorted2 ?_)
    refine PyProof.Rows.callWith_builtin1 (PyProof.Rows.args_cons (thn (hit.run pins s σ H (fun v H1 => ∃ q, v = .ref q ∧ H q = none ∧ H1 = upd H q (DX.itemsO q a)) I ⟨.ref a, hv, .inr (.inr (.inl ⟨rfl, .inl ⟨vsV, ha⟩⟩)), a, vsV, rfl, rfl, ha, fun q hq => ⟨q, rfl, hq, rfl⟩⟩) fun v s1 ⟨x, H1, I1, r1, q1⟩ => PyProof.Rows.args_nil ?_) na) na rfl
    obtain ⟨q, rfl, hq, rfl⟩ := q1
    cases r1
    have o1 : Ok pn b F (upd H q (DX.itemsO q a)) := rep.ok.own hq
    have x1 : Ext pn F H F (upd H q (DX.itemsO q a)) := .own hq
    have hqa : a ≠ q := fun z => by rw [z, hq] at ha; cases ha
    have ha1 : (upd H q (DX.itemsO q a)) a = some (.dK vsV) := by rw [upd_ne hqa]; exact ha
    have hview : s1.heap.IsItemsView q a := (I1.hok q (DX.itemsO q a) upd_same).1
    obtain ⟨hz, hs0, vs, rel, hdo⟩ := dk_of I1.hok ha1
    obtain ⟨ep, hat⟩ := hdo.dictAt
    have lk : vsV.length = vs.length := Paired.length rel
    obtain ⟨ds, ei, al, so, ln, dp, q⟩ := t
    cases ei
    have lz : (kvs.map pairS).length ≤ sizeLine := by rw [sizeLine_eq]; omega
    refine sortedG (ds := kvs.map pairS) (K := fun s2 R0 => ∃ F2 H2, R0 = Stands X.K F2 ∧ L2.Inv X pins σ H2 s2 ∧ Ok pn b F2 H2 ∧ Ext pn F H F2 H2) (fun s2 R0 ⟨F2, H2, e, J, o2, x2⟩ u y h => ?_) al so lz (fun y hy => by have := dp y hy; omega) (fun R hR => ?_) (args_sorted1 _) fun s2 s3 R0 p out c ⟨F2, H2, e, J, o2, x2⟩ k2 g2 z2 hp ha2 hout => ?_
    · subst e
      obtain ⟨w, rw_, rd⟩ := h
      obtain ⟨as, ra, _⟩ := reads_of J o2.sub rd rw_
      exact ⟨as, ra⟩
    · refine PySem.W.kdx_collect (knd := mixKind X.prog X.w) (kvs := vs) (ep := ep) (A := X.A.in1) (by have := I1.ok.hd hc; simpa using this) hview hat (by omega) fun h' tk as hk hl hG => ?_
      have nd : as.Nodup := List.Pairwise.imp (fun {a b} (h : a < b) => Nat.ne_of_lt h) hG.rise
      have lo : ∀ c ∈ as, s1.heap.objs.size ≤ c := fun c hc => Nat.le_of_lt (hG.above c hc)
      have hp : Paired (fun c xs => ∃ ob, TupAt h' c ob xs) as (vsV.map fun q => [kV q.1, q.2]) := by
        refine paired_at (by rw [List.length_map]; omega) fun j c xs e1 e2 => ?_
        obtain ⟨key, kk, x, f1, f2, f3⟩ := hG.pairs j c e1
        rw [List.getElem?_map] at e2
        obtain ⟨qv, g1, g2⟩ := Option.map_eq_some_iff.mp e2
        subst g2
        obtain ⟨r1, r2⟩ := paired_get' rel j qv (kk, x) g1 f1
        have rk : RelV (kV qv.1) key := by
          rw [r1]
          exact relV_key (show keyIs kk key = true from f2)
        exact ⟨_, [key, x], rfl, f3, .cons rk (.cons r2 .nil), by show 2 ≤ sizeLine; decide⟩
      obtain ⟨G, g1, g2, g3⟩ := lays nd hp
      have J := putG_in (tk := tk) I1 hk lo g3
      obtain ⟨o2, x2⟩ := putG_ok o1 (fun t ht => I1.hok.fresh (lo t ht)) g3
      refine hR _ _ (Stands X.K (putG G F)) ⟨_, _, rfl, J, o2, x1.trans x2⟩ (each_at (by rw [List.length_map, List.length_map, ← kv.len]; omega) fun j u d e1 e2 => ?_)
      rw [List.getElem?_map] at e1 e2
      obtain ⟨c, e1', rfl⟩ := Option.map_eq_some_iff.mp e1
      obtain ⟨pr, e2', rfl⟩ := Option.map_eq_some_iff.mp e2
      clear e1 e2
      have e1 := e1'
      have e2 := e2'
      have jl : j < vsV.length := by rw [kv.len]; exact (List.getElem?_eq_some_iff.mp e2).1
      obtain ⟨ob, gc, gd⟩ := paired_get' g2 j c [kV vsV[j].1, vsV[j].2] e1 (by rw [List.getElem?_map, List.getElem?_eq_getElem jl]; rfl)
      obtain ⟨kq, rq⟩ := kv.get' j _ pr (List.getElem?_eq_getElem jl) e2
      refine ⟨.ref c, rfl, .tup (.inl ⟨ob, by unfold putG; rw [gc], gd⟩) (.cons ?_ (.cons (rq.mono (x1.trans x2).fsub) .nil))⟩
      rw [kq]
      exact .str _
    · subst e
      obtain ⟨ws, hw, hr⟩ := of_stands hout
      have hok2 : HOk X.prog X.w H2 s2.heap := J.hok
      have hn : H2 p = none := hok2.fresh hp
      have lw : ws.length ≤ sizeLine := by
        rw [hr.len]
        show ((kvs.map pairS).mergeSort _).length ≤ sizeLine
        rw [List.length_mergeSort]
        exact lz
      have J2 : Inv X pins σ (upd H2 p (.lst ws)) s3 := J.call' (ch := []) z2 (Un.laid k2 hp hn) (hok2.laid k2 hp ⟨lw, out.toList, c, hw, ha2⟩) (by rw [g2]; exact J.bare) (fun _ z => nomatch z)
      have g : GoL X.K pn b F2 H2 (fun d => P d b) Q := fun w z F' H' o3 e3 rv nw pz => k w z F' H' b o3 (x2.trans e3) rv (fun a e => x2.back rep.ok o2 (nw a e)) pz
      exact ⟨.ref p, _, J2, rfl, g.lst o2 hr q p hn⟩
  · exact t.elim
end
end Pu
namespace Pu
open PySem PySem.Spec PyProof.Rows L2 PuS
abbrev WDO := List Sl → Nat → (PyData → Nat → Prop) → (List PyData → Nat → Prop) → Prop
/-- return x, the list a name holds stays one's own -/
def sRetO (i : Nat) : WS := fun PD env b => match env[i]? with
  | some (some (.d x)) => PD.rt x b
  | some (some (.l xs)) => PD.rl xs b
  | _ => False
def wDefO (np nn : Nat) (t : WS) : WDO := fun ss b P L => ss.length = np ∧ t { nx := fun _ b' => P .none b', rt := P, rl := L } (env0 nn ss) b
/-- .. and settled at once -/
def fzO (f : WDO) : WD := fun ss b P => f ss b P fun ds b' => P (.list ds) b'
def spO (K : PySem.W.Frag) (f : WDO) : Sp := fun vs H Q _ => ∃ pn F ss b P L, Ok pn b F H ∧ ArgsAre K pn F H vs ss ∧ f ss b P L ∧
  (∀ v d F' H' b', Ok pn b' F' H' → Ext pn F H F' H' → RV K F' v d → P d b' → Q v H') ∧
  (∀ v ds F' H' b', Ok pn b' F' H' → Ext pn F H F' H' → OwnL K pn F' H' v ds → (∀ a, v = .ref a → H a = none) → L ds b' → Q v H')
section
variable {X : Cx} {i : Nat} {x : Str} {p pos spos pos' : Pos} {tf : WF} {e : Expr}
theorem s_retO (h : PE X (.Name x p) (tVar i)) : SS X (.Return (some (.Name x p)) pos) (sRetO i) := PS.imp (ps_ret h) fun D σ H ⟨pn, F0, H0, F, env, b, PD, rep, t, k, r⟩ => by
  unfold sRetO at t
  split at t
  · rename_i y h
    obtain ⟨v, h1, h2⟩ := rep.rep.slot i _ h
    exact ⟨v, h1, r.1 v y F H b rep.rep.ok rep.ext h2 t⟩
  · rename_i ys h
    obtain ⟨v, h1, h2⟩ := rep.rep.slot i _ h
    exact ⟨v, h1, r.2 v ys F H b rep.rep.ok rep.ext h2 (fun a ea => rep.own i a _ rfl h (by rw [h1, ea])) t⟩
  · exact t.elim
end
section
variable {P : Program} {w : World} {K : PySem.W.Frag} {mg : Str → Option Value} {base : Heap}
theorem ok_fnO {x qual : Str} {st : Stmt} {f : Addr} {fd : FuncData} {N ps : List Str} {k : Nat} {t : WS} (F : Fun K x qual st f fd) (S : FnScope N ps (defScope st))
    (body : ∀ (cdv : Value) (A : Around) (outer : List Env) (s : Shared) (H : Hp) (E : XK), Room k (A.deeper (envOfC qual (defScope st) s.heap.objs.size f cdv)) → SB (cxOf CX0 P w K mg base N qual (defScope st) f cdv A outer s H E).nox (defBody st) t) :
    FnOk P w K mg base CX0 (k + 1) f fd ps (spO K (wDefO ps.length N.length t)) := by
  refine F.ok S (fun vs H Q E h => ?_) (fun cdv A outer s H vs Q E hr h => ?_)
  · obtain ⟨pn, F, ss, b, P, L, o, ar, ⟨hl, _⟩, _⟩ := h
    rw [ar.len, hl]
  · obtain ⟨pn, F, ss, b, PP, L, o, ar, ⟨hl, q⟩, kk, kl⟩ := h
    exact ⟨lS K t, body cdv A outer s H E hr, pn, F, H, F, _, b, _, start_rep o ar, q,
      fun σ' F' H' env' b' rep' => ⟨fun q => kk .non .none F' H' b' rep'.rep.ok rep'.ext .non q, fun q => q, fun q => q⟩, ⟨fun v d F' H' b' o' x' rv q => kk v d F' H' b' o' x' rv q, fun v d F' H' b' o' x' ow nw q => kl v d F' H' b' o' x' ow nw q⟩⟩
theorem spO.fz {f : Addr} {fd : FuncData} {ps : List Str} {k : Nat} {t : WDO} (G : FnOk P w K mg base CX0 k f fd ps (spO K t)) : FnOk P w K mg base CX0 k f fd ps (spW K (fzO t)) :=
  G.imp fun vs H Q E ⟨pn, F, ss, b, PP, o, ar, q, kk⟩ => ⟨pn, F, ss, b, PP, _, o, ar, q, kk, fun v ds F' H' b' o' x ow nw q => by
    obtain ⟨a, us, rfl, f, n, nc, ha, rv⟩ := ow
    refine kk (.ref a) (.list ds) (upd F' a (.lst us)) H' b' (o'.settle ha f n nc) ⟨x.fsub.trans (same_new f), fun c u hc fc ncp => ?_⟩ (.lst upd_same (rv.mono (same_new f))) q
    obtain ⟨h1, f1⟩ := x.keep c u hc fc ncp
    exact ⟨h1, by rw [upd_ne (fun z => by rw [z, nw a rfl] at hc; cases hc)]; exact f1⟩⟩
end
/-- x = f(..), the list given back is one's own -/
def sSetO (f : WDO) (t : WA) (i : Nat) : WS := fun PD env b => t env b fun ss b1 => f ss b1 (fun d b2 => PD.nx (env.set i (some (.d d))) b2) (fun ds b2 => PD.nx (env.set i (some (.l ds))) b2)
section
variable {X : Cx} {e : Expr} {es : List Expr} {t : WA} {i : Nat} {x y : Str} {p pos spos pos' : Pos} {f : Addr} {fd : FuncData} {ps : List Str} {k : Nat} {w : WDO}
theorem s_setO (G : FnOk X.prog X.w X.K X.mg X.base CX0 k f fd ps (spO X.K w)) (hr : Room k X.A) (hg : Gl X x) (hm : X.mg x = some (.ref f)) (hk : PySem.W.keepIn X.K (.ref f) = true) (hb : Binds X.K fd ps []) (ha : EA X (e :: es) t)
    (hN : X.N.Nodup) (hi : X.N[i]? = some y) (hy : Loc X.env.scope y) (hdb : (x == ("__debug__" : Str)) = false := by decide)
    (he : starEach (e :: es) X.env = (false, eval e X.env) :: starEach es X.env := by rfl) (hpl : (backTo pos (starEach es X.env)).any (·.1) = false := by rfl) (hs : swapsWith (.Call (.Name x p) (e :: es) [] pos) (some (.Name y pos')) spos.line X.env = pure false := by rfl) (hf : X.fn y = true ∨ X.env.scope.names.lookup y = some .local := by first | exact .inl rfl | exact .inr rfl) :
    SS X (.Assign [.Name y pos'] (.Call (.Name x p) (e :: es) [] pos) spos) (sSetO w t i) := PS.imp (ps_set hN hi hy (pe_call G hr hg hm hk hb .nil pass0 ha hdb he hpl) hs hf) fun D σ H ⟨pn, F0, H0, F, env, b, PD, rep, t, k, r⟩ =>
  ⟨pn, F, env, b, _, rep.rep, t, fun vs ss F1 H1 b1 o1 e1 ar t1 => ⟨pn, F1, ss, b1, _, _, o1, by rw [List.append_nil]; exact ar, t1,
    fun v d F' H' b' o' e' rv q => (k _ F' H' _ b' (((rep.ext' o1 e1).ext' o' e').setD rv)).1 q,
    fun v d F' H' b' o' e' ow nw q => by
      have f1 := (rep.ext' o1 e1).fresh nw
      exact (k _ F' H' _ b' (((rep.ext' o1 e1).ext' o' e').setL ow f1)).1 q⟩⟩
end
def MDO (f : WDO) (ss : List Sl) (n : Nat) (R : PyData → Nat → Prop) (L : List PyData → Nat → Prop) : Prop :=
  ∀ (b : Nat) (P : PyData → Nat → Prop) (PL : List PyData → Nat → Prop), n ≤ b → (∀ r m b', R r m → m ≤ b' → P r b') → (∀ r m b', L r m → m ≤ b' → PL r b') → f ss b P PL
def MSO (t : WS) (env : En) (n : Nat) (N : En → Nat → Prop) (R : PyData → Nat → Prop) (L : List PyData → Nat → Prop) (B C : En → Nat → Prop) : Prop :=
  ∀ (PD : PEnds) (b : Nat), n ≤ b → (∀ e m b', N e m → m ≤ b' → PD.nx e b') → (∀ r m b', R r m → m ≤ b' → PD.rt r b') → (∀ r m b', L r m → m ≤ b' → PD.rl r b') →
    (∀ e m b', B e m → m ≤ b' → PD.bk e b') → (∀ e m b', C e m → m ≤ b' → PD.ct e b') → t PD env b
section
variable {t u tb : WS} {ta tc : WE} {tt : WT} {tf : WF} {ti : WI} {env : En} {n i j : Nat} {g : Tg} {N : En → Nat → Prop} {R : PyData → Nat → Prop} {L : List PyData → Nat → Prop} {B C : En → Nat → Prop}
theorem o_seq (h : MS t env n (fun e m => MSO u e m N R L B C) R B C) : MSO (sSeq t u) env n N R L B C :=
  fun PD b hb kn kr kl kb kc => h _ b hb (fun e m b' q hm => q PD b' hm kn kr kl kb kc) kr kb kc
theorem o_retO {xs : List PyData} (hx : env[i]? = some (some (.l xs))) (q : L xs n) : MSO (sRetO i) env n N R L B C :=
  fun PD b hb kn kr kl kb kc => by unfold sRetO; rw [hx]; exact kl _ n b q hb
theorem mdo_def {np nn : Nat} {t : WS} {ss : List Sl} {n : Nat} {Q : PyData → Nat → Prop} {L : List PyData → Nat → Prop} {env : En} (hl : ss.length = np) (he : env0 nn ss = env) (h : MSO t env n (fun _ m => Q .none m) Q L noEnd noEnd) : MDO (wDefO np nn t) ss n Q L :=
  fun b P PL hb k kl => ⟨hl, by subst he; exact h _ b hb (fun e m b' q hm => k _ m b' q hm) k kl (fun _ _ _ q => q.elim) (fun _ _ _ q => q.elim)⟩
theorem md_fz {f : WDO} {ss : List Sl} {n : Nat} {Q : PyData → Nat → Prop} (h : MDO f ss n Q fun ds m => Q (.list ds) m) : MD (fzO f) ss n Q := fun b P hb k => h b P _ hb k fun r m b' q hm => k _ m b' q hm
theorem MDO.imp {f : WDO} {ss : List Sl} {n : Nat} {Q Q' : PyData → Nat → Prop} {L L' : List PyData → Nat → Prop} (h : MDO f ss n Q L) (i : ∀ r m, Q r m → Q' r m) (j : ∀ r m, L r m → L' r m) : MDO f ss n Q' L' :=
  fun b P PL hb k kl => h b P PL hb (fun r m b' q hm => k r m b' (i r m q) hm) fun r m b' q hm => kl r m b' (j r m q) hm
theorem n_setO {f : WDO} {tl : WA} (h : ME tl env n fun ss m => MDO f ss m (fun d m' => N (env.set i (some (.d d))) m') (fun ds m' => N (env.set i (some (.l ds))) m')) : MS (sSetO f tl i) env n N R B C :=
  fun PD b hb kn kr kb kc => h b _ hb fun ss m b1 q hb1 => q b1 _ _ hb1 (fun d m' b2 q hb2 => kn _ m' b2 q hb2) (fun d m' b2 q hb2 => kn _ m' b2 q hb2)
theorem n_dictK (h : ME ta env n fun d m => ∃ kvs, dictOf d kvs ∧ N (env.set i (some (.k kvs))) m) : MS (sDictK ta i) env n N R B C :=
  fun PD b hb kn kr kb kc => h b _ hb fun d m b1 ⟨kvs, hd, q⟩ hb1 => ⟨kvs, hd, kn _ m b1 q hb1⟩
theorem m_kin {kvs : List (Str × PyData)} {Q : PyData → Nat → Prop} {neg : Bool} (hx : env[i]? = some (some (.k kvs))) (h : ME ta env n fun d m => ∃ s, d = .str s ∧ Q (.bool (neg ^^ (lookS kvs s).isSome)) m) : ME (wKIn ta i neg) env n Q :=
  fun b P hb k => h b _ hb fun d m b1 ⟨s, e, q⟩ hb1 => by
    subst e
    rw [hx]
    exact k _ m b1 q hb1
theorem m_kget {kvs : List (Str × PyData)} {Q : PyData → Nat → Prop} (hx : env[i]? = some (some (.k kvs))) (h : ME ta env n fun d m => ∃ s z, d = .str s ∧ lookS kvs s = some z ∧ Q z m) : ME (wKGet ta i) env n Q :=
  fun b P hb k => by
    unfold wKGet
    rw [hx]
    refine h b _ hb fun d m b1 ⟨s, z, e, e2, q⟩ hb1 => ?_
    subst e
    show (match lookS kvs s with | some d => P d b1 | none => False)
    rw [e2]
    exact k _ m b1 q hb1
theorem n_kset {kvs : List (Str × PyData)} (hx : env[i]? = some (some (.k kvs))) (h : ME tc env n fun d m => ME ta env m fun y m' => ∃ s, y = .str s ∧ kvs.length < sizeLine ∧ N ((env.map noK).set i (some (.k (putS kvs s d)))) m') : MS (sKSet i ta tc) env n N R B C :=
  fun PD b hb kn kr kb kc => by
    unfold sKSet
    rw [hx]
    refine h b _ hb fun d m b1 hd hb1 => hd b1 _ hb1 fun y m' b2 ⟨s, e, l, q⟩ hb2 => ?_
    subst e
    exact ⟨l, kn _ m' b2 q hb2⟩
theorem m_klist {kvs : List (Str × PyData)} {QL : List PyData → Nat → Prop} (hx : env[i]? = some (some (.k kvs))) (q : QL (kvs.map fun p => .str p.1) n) : ME (wKList i) env n QL := fun b P hb k => by
  unfold wKList
  rw [hx]
  exact k _ n b q hb
theorem m_ksort {kvs : List (Str × PyData)} {QL : List PyData → Nat → Prop} (hx : env[i]? = some (some (.k kvs))) (al : W.AllAlike (kvs.map pairS)) (so : W.Sortable (kvs.map pairS)) (few : kvs.length ≤ 100000) (dp : ∀ d ∈ kvs.map pairS, d.depth ≤ 40) (q : QL (srt (kvs.map pairS)) n) : ME (wKSort i) env n QL := fun b P hb k => by
  unfold wKSort
  rw [hx]
  exact ⟨_, rfl, al, so, by rw [List.length_map]; exact few, dp, k _ n b q hb⟩
theorem m_dget2 {te tz : WE} {Q : PyData → Nat → Prop} (h : ME te env n fun d m => ∃ kvs, dictOf d kvs ∧ ME ta env m fun y m1 => ∃ s, y = .str s ∧ ME tz env m1 fun z m2 => Q ((lookS kvs s).getD z) m2) : ME (wDGet te ta tz) env n Q :=
  fun b P hb k => h b _ hb fun d m b1 ⟨kvs, hd, h2⟩ hb1 => ⟨kvs, hd, h2 b1 _ hb1 fun y m1 b2 ⟨s, e, h3⟩ hb2 => by subst e; exact h3 b2 _ hb2 fun z m2 b3 q hb3 => k _ m2 b3 q hb3⟩
/-- sorted(x) -/
theorem m_sort {QL : List PyData → Nat → Prop} (h : ME ta env n fun d m => ∃ ds, itemsOf d = some ds ∧ W.AllAlike ds ∧ W.Sortable ds ∧ ds.length ≤ 100000 ∧ (∀ d ∈ ds, d.depth ≤ 40) ∧ QL (srt ds) m) : ME (w1L pSort ta) env n QL :=
  fun b P hb k => h b _ hb fun d m b1 ⟨ds, h1, h2, h3, h4, h5, q⟩ hb1 => ⟨ds, h1, h2, h3, h4, h5, k _ m b1 q hb1⟩
end
end Pu
namespace Pu
open PySem PySem.Spec PyProof.Rows L2 PuS
def rMulS : R2 := fun x y H Q => ∃ s n, x = .str s ∧ y = .int n ∧ -(2 ^ 63) ≤ n ∧ n ≤ 1 ∧ Q (.str (Txt.mul s n)) H
theorem op_mulS {X : Cx} : OpR X (binaryOp .Mult) rMulS := by
  intro pins s σ H x y v u Q I rx ry h
  obtain ⟨i, n, rfl, rfl, h1, h2, q⟩ := h
  obtain ⟨t, rfl⟩ := rx
  obtain ⟨t', rfl⟩ := ry
  refine SB.mul ⟨?_, fun a b => ?_, fun a b => ?_⟩ fun t' k => ⟨.str (Txt.mul i n), H, I.tok _, ⟨_, rfl⟩, q⟩
  · rw [decide_eq_false (by omega), decide_eq_false (by omega)]; rfl
  · have : n = 1 := by omega
    subst this
    simp at b
  · have : n = 1 := by omega
    subst this
    simp at b
def pMulV : P2
  | .str s, .int n, P => -(2 ^ 63) ≤ n ∧ n ≤ 1 ∧ P (.str (Txt.mul s n))
  | x, y, P => pMulT x y P
def rMulV (K : PySem.W.Frag) : R2 := fun x y H Q => rMulT K x y H Q ∨ rMulS x y H Q
theorem opr_mulV {X : Cx} : OpR X (binaryOp .Mult) (rMulV X.K) := OpR.or opr_mulT op_mulS
theorem o_mulV {K : PySem.W.Frag} : Op2 K (rMulV K) pMulV := by
  intro pn b F H v u x y P Q o bv bu q k
  unfold pMulV at q
  split at q
  · exact .inr ⟨_, _, bv.str, bu.int, q.1, q.2.1, k _ _ F H o .refl (.str _) q.2.2⟩
  · exact .inl (o_mulT pn b F H v u _ _ P Q o bv bu q k)
def eMulV : PyData → PyData → Option PyData
  | .str s, .int n => if -(2 ^ 63) ≤ n ∧ n ≤ 1 then some (.str (Txt.mul s n)) else none
  | x, y => eMulT x y
theorem h2_mulV : H2 pMulV eMulV := fun x y P r q k => by
  unfold eMulV at q
  unfold pMulV
  split at q
  · obtain ⟨c, e⟩ := ite_some q
    subst e
    exact ⟨c.1, c.2, k⟩
  · rename_i h
    split
    · rename_i s n
      exact absurd rfl (h s n rfl)
    · exact h2_mulT _ _ P r q k
end Pu
namespace Pu
open PySem PySem.Spec PyProof.Rows L2 SeqAt PuS
theorem h1_lenSet2 : H1 pLenSet2 eLenSet := fun x P r q k => by
  obtain ⟨ks, h1, q⟩ := bnd q
  obtain ⟨c, e⟩ := ite_some q
  subst e
  exact .inl ⟨ks, keysF_ok h1, c, k⟩
section
variable {K : List Nat} {rules : List (List Nat × Nat)} {keys : List (List Nat)} {X f g : List Nat}
/-- how many columns are not found -/
def miss (K f : List Nat) : Nat := (K.filter fun c => !decide (c ∈ f)).length
theorem miss_add {c : Nat} (f : List Nat) : ∀ {K : List Nat}, K.Nodup → c ∈ K → c ∉ f → miss K (f ++ [c]) + 1 = miss K f
  | [], _, h, _ => nomatch h
  | k :: K, nd, h, hf => by
    obtain ⟨n1, n2⟩ := List.nodup_cons.mp nd
    unfold miss
    by_cases e : k = c
    · subst e
      rw [List.filter_cons_of_neg (by simp), List.filter_cons_of_pos (by simpa using hf), List.length_cons]
      refine congrArg (fun l : List Nat => l.length + 1) (List.filter_congr fun d hd => ?_)
      have : d ≠ k := fun z => n1 (z ▸ hd)
      simp [this]
    · have hc : c ∈ K := by
        rcases List.mem_cons.mp h with z | z
        · exact absurd z.symm e
        · exact z
      have ih := miss_add f n2 hc hf
      unfold miss at ih
      by_cases q : k ∈ f
      · rw [List.filter_cons_of_neg (by simp [q]), List.filter_cons_of_neg (by simp [q])]
        exact ih
      · rw [List.filter_cons_of_pos (by simp [q, e]), List.filter_cons_of_pos (by simp [q]), List.length_cons, List.length_cons]
        omega
theorem miss_le (K f : List Nat) : miss K f ≤ K.length := List.length_filter_le _ _
theorem miss_self : miss K K = 0 := by
  unfold miss
  rw [List.length_eq_zero_iff, List.filter_eq_nil_iff]
  intro c hc
  simp [hc]
structure LawG (K : List Nat) (rules : List (List Nat × Nat)) (keys : List (List Nat)) (X f : List Nat) : Prop where
  btw : Btw K rules keys X f
  sub : ∀ c ∈ f, c ∈ K
  len : f.length + miss K f ≤ 20
theorem addR_lawG {p : List Nat × Nat} (nd : K.Nodup) (hp : p ∈ rules) (hr : ∀ p ∈ rules, p.2 ∈ K) (h : LawG K rules keys X f) : LawG K rules keys X (addR f p) ∧ miss K (addR f p) + (addR f p).length = miss K f + f.length := by
  unfold addR
  split
  · rename_i c
    have m := miss_add f nd (hr p hp) c.2
    refine ⟨⟨⟨fun c hc => List.mem_append_left _ (h.btw.low c hc), fun S cl hX c' hc => ?_⟩, fun c' hc => ?_, ?_⟩, ?_⟩
    · rcases List.mem_append.mp hc with hc | hc
      · exact h.btw.high S cl hX c' hc
      · rw [List.mem_singleton.mp hc]
        exact cl.rule p hp fun d hd => h.btw.high S cl hX d (inB_iff.mp c.1 d hd)
    · rcases List.mem_append.mp hc with hc | hc
      · exact h.sub c' hc
      · rw [List.mem_singleton.mp hc]; exact hr p hp
    · have := h.len
      rw [List.length_append, List.length_singleton]
      omega
    · rw [List.length_append, List.length_singleton]
      omega
  · exact ⟨h, rfl⟩
theorem foldR_lawG (nd : K.Nodup) (hr : ∀ p ∈ rules, p.2 ∈ K) : ∀ (rs : List (List Nat × Nat)) (f : List Nat), (∀ p ∈ rs, p ∈ rules) → LawG K rules keys X f → LawG K rules keys X (rs.foldl addR f) ∧ miss K (rs.foldl addR f) + (rs.foldl addR f).length = miss K f + f.length
  | [], _, _, h => ⟨h, rfl⟩
  | p :: rs, f, hs, h => by
    obtain ⟨h1, h2⟩ := addR_lawG nd (hs p List.mem_cons_self) hr h
    obtain ⟨h3, h4⟩ := foldR_lawG nd hr rs _ (fun q hq => hs q (List.mem_cons_of_mem _ hq)) h1
    exact ⟨h3, h4.trans h2⟩
theorem turnL_lawG (nd : K.Nodup) (k5 : K.length ≤ 5) (hr : ∀ p ∈ rules, p.2 ∈ K) (h : LawG K rules keys X f) : LawG K rules keys X (turnL K rules keys f) := by
  obtain ⟨h1, _⟩ := foldR_lawG nd hr rules f (fun _ hp => hp) h
  unfold turnL
  by_cases a : keys.any (fun k => inB k (rules.foldl addR f)) = true
  · rw [if_pos a]
    obtain ⟨k, hk, hi⟩ := List.any_eq_true.mp a
    exact ⟨⟨fun c hc => h.sub c (h.btw.low c hc), fun S cl hX c hc => cl.key k hk (fun d hd => h1.btw.high S cl hX d (inB_iff.mp hi d hd)) c hc⟩, fun _ hc => hc, by rw [miss_self]; omega⟩
  · rw [if_neg a]; exact h1
theorem turnL_fixG (hr : ∀ p ∈ rules, p.2 ∈ K) (e : turnL K rules keys f = f) : Closed K rules keys (· ∈ f) := by
  unfold turnL at e
  by_cases a : keys.any (fun k => inB k (rules.foldl addR f)) = true
  · rw [if_pos a] at e
    subst e
    exact ⟨fun p hp _ => hr p hp, fun _ _ _ c hc => hc⟩
  · rw [if_neg a] at e
    obtain ⟨_, i2⟩ := foldR_same rules f (by rw [e])
    refine ⟨i2, fun k hk hc => ?_⟩
    have q : inB k (rules.foldl addR f) = true := inB_iff.mpr (by rw [e]; exact hc)
    exact absurd (List.any_eq_true.mpr ⟨k, hk, q⟩) a
def leftG (K f : List Nat) : Nat := if f = K then 0 else miss K f + 1
theorem leftG_less (nd : K.Nodup) (hr : ∀ p ∈ rules, p.2 ∈ K) (h : LawG K rules keys X f) (e : turnL K rules keys f ≠ f) : leftG K (turnL K rules keys f) < leftG K f := by
  obtain ⟨h1, hm⟩ := foldR_lawG nd hr rules f (fun _ hp => hp) h
  have hlen := foldR_len rules f
  have same : (rules.foldl addR f).length = f.length → rules.foldl addR f = f := fun q => (foldR_same rules f q).1
  have hfK : f ≠ K := fun q => by
    subst q
    have : miss f f = 0 := miss_self
    have i1 := same (by omega)
    apply e
    unfold turnL
    rw [i1]
    split <;> rfl
  unfold leftG
  rw [if_neg hfK]
  by_cases z : turnL K rules keys f = K
  · rw [if_pos z]; omega
  · rw [if_neg z]
    have a : ¬ keys.any (fun k => inB k (rules.foldl addR f)) = true := fun a => z (by unfold turnL; rw [if_pos a])
    have et : turnL K rules keys f = rules.foldl addR f := by unfold turnL; rw [if_neg a]
    rw [et] at e ⊢
    have : (rules.foldl addR f).length ≠ f.length := fun q => e (same q)
    omega
theorem btw_filter (h : Btw K rules keys X g) (hX : ∀ c ∈ X, c ∈ K) : Btw K rules keys (K.filter fun c => decide (c ∈ X)) g :=
  ⟨fun c hc => h.low c (of_decide_eq_true (List.mem_filter.mp hc).2), fun S cl hs c hc => h.high S cl (fun d hd => hs d (List.mem_filter.mpr ⟨hX d hd, decide_eq_true hd⟩)) c hc⟩
end
end Pu
namespace Pu
open PySem PySem.Spec PyProof.Rows L2 SeqAt PuS
abbrev CsT := List (Nat × Int)
def cD (p : Nat × Int) : PyData := .tuple [sg p.1, .int p.2]
def csS (cs : CsT) : List (Str × PyData) := cs.map fun p => ((⟨#[p.1]⟩ : Str), PyData.int p.2)
def colsC (cs : CsT) : List Nat := cs.map (·.1)
def fixC (cs : CsT) (c : Nat) : Option Int := (cs.find? fun p => decide (p.1 = c)).map (·.2)
theorem csS_pair (cs : CsT) : (csS cs).map pairS = cs.map cD := by
  unfold csS
  rw [List.map_map]
  rfl
theorem csS_keys (cs : CsT) : ((csS cs).map fun p => PyData.str p.1) = (colsC cs).map sg := by
  unfold csS colsC
  rw [List.map_map, List.map_map]
  rfl
theorem csS_nodup {cs : CsT} (h : (colsC cs).Nodup) : ((csS cs).map (·.1)).Nodup := by
  unfold csS
  rw [List.map_map]
  have : ((fun x : Str × PyData => x.1) ∘ fun p : Nat × Int => ((⟨#[p.1]⟩ : Str), PyData.int p.2)) = (fun c : Nat => (⟨#[c]⟩ : Str)) ∘ fun p => p.1 := rfl
  rw [this, ← List.map_map]
  exact h.map _ fun a b n z => n (sg_inj z)
theorem lookS_cs (c : Nat) : ∀ cs : CsT, lookS (csS cs) ⟨#[c]⟩ = (fixC cs c).map .int
  | [] => rfl
  | p :: r => by
    have ih := lookS_cs c r
    unfold lookS csS fixC at ih ⊢
    rw [List.map_cons, List.find?_cons, List.find?_cons]
    by_cases e : p.1 = c
    · rw [decide_eq_true (by show (⟨#[p.1]⟩ : Str) = ⟨#[c]⟩; rw [e]), decide_eq_true e]
      rfl
    · rw [decide_eq_false (fun z => e (sg_inj z)), decide_eq_false e]
      exact ih
theorem fixC_none {cs : CsT} {c : Nat} : fixC cs c = none ↔ c ∉ colsC cs := by
  unfold fixC colsC
  rw [Option.map_eq_none_iff, List.find?_eq_none]
  constructor
  · intro h z
    obtain ⟨p, hp, e⟩ := List.mem_map.mp z
    exact h p hp (decide_eq_true e)
  · intro h p hp z
    exact h (List.mem_map.mpr ⟨p, hp, of_decide_eq_true z⟩)
theorem putS_cs {cs : CsT} {c : Nat} {v : Int} (h : fixC cs c = none) : putS (csS cs) ⟨#[c]⟩ (.int v) = csS (cs ++ [(c, v)]) := by
  have hn := fixC_none.mp h
  unfold putS
  rw [if_neg]
  · unfold csS; rw [List.map_append]; rfl
  · intro z
    obtain ⟨p, hp, e⟩ := List.any_eq_true.mp z
    unfold csS at hp
    obtain ⟨q, hq, rfl⟩ := List.mem_map.mp hp
    exact hn (List.mem_map.mpr ⟨q, hq, sg_inj (of_decide_eq_true e)⟩)
theorem cs_alike (cs : CsT) : W.AllAlike (cs.map cD) := by
  intro d hd d' hd'
  obtain ⟨p, _, rfl⟩ := List.mem_map.mp hd
  obtain ⟨q, _, rfl⟩ := List.mem_map.mp hd'
  rfl
theorem cs_sortable (cs : CsT) : W.Sortable (cs.map cD) := .inl fun d hd => by
  obtain ⟨p, _, rfl⟩ := List.mem_map.mp hd
  exact ⟨_, _, rfl⟩
theorem cs_depth (cs : CsT) : ∀ d ∈ cs.map cD, d.depth ≤ 40 := fun d hd => by
  obtain ⟨p, _, rfl⟩ := List.mem_map.mp hd
  show PyData.depth (.tuple [.str _, .int _]) ≤ 40
  simp [PyData.depth, PyData.depthAll]
def srtC (cs : CsT) : CsT := cs.mergeSort fun a b => decide (a.1 ≤ b.1)
theorem ones_lt {a b : Nat} : ([a] : List Nat) < [b] ↔ a < b := by rw [List.cons_lt_cons_iff]; simp
theorem le_cD (a b : Nat × Int) : W.dataLe false id (cD a) (cD b) = !(if b.1 = a.1 then decide (b.2 < a.2) else decide (b.1 < a.1)) := by
  show (!W.dataLt (cD b) (cD a)) = _
  unfold cD
  rw [show W.dataLt (.tuple [sg b.1, .int b.2]) (.tuple [sg a.1, .int a.2]) = _ from W.dataLt_pair rfl rfl]
  congr 1
  have e1 : PyData.eqv (sg b.1) (sg a.1) = decide (b.1 = a.1) := by
    show decide ((⟨#[b.1]⟩ : Str) = ⟨#[a.1]⟩) = _
    exact decide_eq_decide.mpr ⟨sg_inj, fun z => by rw [z]⟩
  have e2 : PyData.eqv (.int b.2) (.int a.2) = decide (b.2 = a.2) := by rw [PyData.eqv]; exact Bool.eq_iff_iff.mpr (by simp)
  have e3 : W.dataLt (sg b.1) (sg a.1) = decide (b.1 < a.1) := by
    show W.dataLt (.str ⟨#[b.1]⟩) (.str ⟨#[a.1]⟩) = _
    rw [W.dataLt_str]
    exact decide_eq_decide.mpr ones_lt
  rw [e1, e2, e3, W.dataLt_int]
  by_cases h : b.1 = a.1
  · rw [if_pos (decide_eq_true h), if_pos h]
    by_cases h2 : b.2 = a.2
    · rw [if_pos (decide_eq_true h2), h2]
      simp
    · rw [if_neg (by simpa using h2)]
  · rw [if_neg (by simpa using h), if_neg h]
theorem nodup_same {cs : CsT} (nd : (colsC cs).Nodup) {a b : Nat × Int} (ha : a ∈ cs) (hb : b ∈ cs) (e : a.1 = b.1) : a = b := by
  induction cs with
  | nil => exact nomatch ha
  | cons p r ih =>
    obtain ⟨n1, n2⟩ := List.nodup_cons.mp (show (p.1 :: colsC r).Nodup from nd)
    rcases List.mem_cons.mp ha with ea | ha'
    · rcases List.mem_cons.mp hb with eb | hb'
      · rw [ea, eb]
      · exact absurd (show p.1 ∈ colsC r from List.mem_map.mpr ⟨b, hb', by rw [← e, ea]⟩) n1
    · rcases List.mem_cons.mp hb with eb | hb'
      · exact absurd (show p.1 ∈ colsC r from List.mem_map.mpr ⟨a, ha', by rw [e, eb]⟩) n1
      · exact ih n2 ha' hb'
theorem srt_cs {cs : CsT} (nd : (colsC cs).Nodup) : srt (cs.map cD) = (srtC cs).map cD := by
  unfold srt srtC
  rw [List.map_mergeSort (s := W.dataLe false id)]
  intro a ha b hb
  rw [le_cD]
  by_cases e : b.1 = a.1
  · have := nodup_same nd hb ha e
    subst this
    simp
  · rw [if_neg e]
    by_cases h : a.1 ≤ b.1
    · rw [decide_eq_true h, decide_eq_false (by omega)]; rfl
    · rw [decide_eq_false h, decide_eq_true (by omega)]; rfl
theorem srtC_perm (cs : CsT) : (srtC cs).Perm cs := List.mergeSort_perm _ _
theorem srtC_asc {cs : CsT} (nd : (colsC cs).Nodup) : (colsC (srtC cs)).Pairwise (· < ·) := by
  have h := List.pairwise_mergeSort (le := fun a b : Nat × Int => decide (a.1 ≤ b.1)) (fun a b c h1 h2 => decide_eq_true (Nat.le_trans (of_decide_eq_true h1) (of_decide_eq_true h2))) (fun a b => by
    rcases Nat.le_total a.1 b.1 with z | z <;> simp [z]) cs
  have nd2 : (colsC (srtC cs)).Nodup := (((srtC_perm cs).map (·.1)).symm : (cs.map (·.1)).Perm ((srtC cs).map (·.1))).nodup nd
  have h2 : (colsC (srtC cs)).Pairwise (· ≤ ·) := by
    unfold colsC
    rw [List.pairwise_map]
    exact h.imp fun {a b} z => of_decide_eq_true z
  exact (h2.and nd2).imp fun {a b} z => Nat.lt_of_le_of_ne z.1 z.2
inductive Kn where
  | emp
  | kn (cs : CsT) (o k : List Nat) (c : Bool) (m : Option Int)
def mostD : Option Int → PyData
  | none => .none
  | some i => .int i
def knD : Kn → PyData
  | .emp => .tuple [.str "empty"]
  | .kn cs o k c m => .tuple [.tuple (cs.map cD), .str (tx o), .str (tx k), .bool c, mostD m]
structure CsOk (K : List Nat) (cs : CsT) : Prop where
  asc : (colsC cs).Pairwise (· < ·)
  sub : ∀ c ∈ colsC cs, c ∈ K
structure KnP (K : List Nat) (cs : CsT) (o k : List Nat) (m : Option Int) : Prop where
  cs : CsOk K cs
  osub : ∀ c ∈ o, c ∈ K
  ond : o.Nodup
  known : k.Sublist K
  most : ∀ i, m = some i → 1 ≤ i
def KnOk (K : List Nat) : Kn → Prop
  | .emp => True
  | .kn cs o k _ m => KnP K cs o k m
inductive Stp where
  | whr (c : Nat) (v : Int)
  | srt (b : Bool) (p : List Nat)
  | cut (b : Bool) (n : Nat)
  | col (l : List Nat)
  | grp (w : Str) (r : List PyData)
def stpD : Stp → PyData
  | .whr c v => .tuple [.str "where", sg c, .int v]
  | .srt true p => .tuple [.str "stable", .str (tx p)]
  | .srt false p => .tuple [.str "sort", .str (tx p)]
  | .cut true n => .tuple [.str "first", .int (n : Nat)]
  | .cut false n => .tuple [.str "skip", .int (n : Nat)]
  | .col l => .tuple [.str "columns", .str (tx l)]
  | .grp w r => .tuple (.str w :: r)
def StpOk (K : List Nat) : Stp → Prop
  | .whr c _ => c ∈ K
  | .srt _ p => (∀ c ∈ p, c ∈ K) ∧ p.Nodup
  | .cut _ _ => True
  | .col l => l.Sublist K
  | .grp w _ => w = Str.ofString "count" ∨ w = Str.ofString "sum" ∨ w = Str.ofString "heads"
section
variable (K : List Nat) (rules : List Rule) (keys : List (List Nat))
/-- the closure of some columns holds a key -/
def oneK (X : List Nat) : Bool := keys.any fun k => inB k (clos K rules keys (K.filter fun c => decide (c ∈ X)))
def plcK (cs : CsT) (o k : List Nat) : List Nat := k.filter fun c => decide (c ∈ clos K rules keys (K.filter fun c => decide (c ∈ o ++ colsC cs)))
def afW (cs : CsT) (o k : List Nat) (n : Bool) (m : Option Int) (c : Nat) (v : Int) : Kn := match fixC cs c with
  | some u => if u = v then .kn cs o k n m else .emp
  | none => .kn (srtC (cs ++ [(c, v)])) o (if c ∈ k then k else []) (n && decide (c ∈ k)) (if oneK K rules keys (colsC cs ++ [c]) = true then some 1 else m)
def preS (k p : List Nat) : List Nat := p.takeWhile fun c => decide (c ∈ k)
def afS (k o : List Nat) (b : Bool) (p : List Nat) : List Nat := if b = true ∧ preS k p = p then p ++ o.filter fun c => !decide (c ∈ p) else preS k p
def afC (cs : CsT) (o k : List Nat) (n : Bool) (m : Option Int) (b : Bool) (i : Nat) : Kn :=
  if i = 0 then (if b = true then .emp else .kn cs o k n m) else match m with
    | some j => if j ≤ (i : Int) then (if b = true then .kn cs o k n m else .emp) else .kn cs o (plcK K rules keys cs o k) n (some (if b = true then (i : Int) else j - i))
    | none => .kn cs o (plcK K rules keys cs o k) n (if b = true then some (i : Int) else none)
def aft : Kn → Stp → Kn
  | .emp, _ => .emp
  | .kn cs o k n m, .whr c v => afW K rules keys cs o k n m c v
  | .kn cs o k n m, .srt b p => .kn cs (afS k o b p) k n m
  | .kn cs o k n m, .cut b i => afC K rules keys cs o k n m b i
  | .kn cs o k n m, .col l => .kn cs o (k.filter fun c => decide (c ∈ l)) n m
  | .kn cs o k n m, .grp _ _ => .kn cs o k n m
def stK : Kn := .kn [] [] K true (if oneK K rules keys [] = true then some 1 else none)
end
section
variable {K : List Nat} {rules : List Rule} {keys : List (List Nat)}
theorem CsOk.few (hK : ColsOk K) {cs : CsT} (h : CsOk K cs) : cs.length ≤ 5 := by
  have := nodup_len (asc_nodup h.asc) h.sub
  unfold colsC at this
  rw [List.length_map] at this
  have := hK.few
  omega
theorem CsOk.put {cs : CsT} {c : Nat} {v : Int} (h : CsOk K cs) (hc : c ∈ K) (hf : fixC cs c = none) : CsOk K (srtC (cs ++ [(c, v)])) ∧ (colsC (cs ++ [(c, v)])).Nodup := by
  have nd : (colsC (cs ++ [(c, v)])).Nodup := by
    unfold colsC
    rw [List.map_append, List.nodup_append]
    exact ⟨asc_nodup h.asc, by simp, fun a ha b hb => by
      have : b = c := by simpa using hb
      subst this
      exact fun e => fixC_none.mp hf (e ▸ ha)⟩
  refine ⟨⟨srtC_asc nd, fun d hd => ?_⟩, nd⟩
  have : d ∈ colsC (cs ++ [(c, v)]) := ((srtC_perm _).map (·.1)).mem_iff.mp hd
  unfold colsC at this
  rw [List.map_append] at this
  rcases List.mem_append.mp this with z | z
  · exact h.sub d z
  · have : d = c := by simpa using z
    rw [this]; exact hc
theorem aft_ok (hK : ColsOk K) {q : Kn} {s : Stp} (h : KnOk K q) (hs : StpOk K s) : KnOk K (aft K rules keys q s) := by
  cases q with
  | emp => trivial
  | kn cs o k n m =>
    have h : KnP K cs o k m := h
    cases s with
    | whr c v =>
      show KnOk K (afW K rules keys cs o k n m c v)
      unfold afW
      split
      · split
        · exact h
        · trivial
      · rename_i hf
        refine ⟨(h.cs.put hs hf).1, h.osub, h.ond, ?_, fun i e => ?_⟩
        · split
          · exact h.known
          · exact List.nil_sublist _
        · split at e
          · cases e; decide
          · exact h.most i e
    | srt b p =>
      show KnP K cs (afS k o b p) k m
      refine ⟨h.cs, fun c hc => ?_, ?_, h.known, h.most⟩
      · unfold afS at hc
        split at hc
        · rcases List.mem_append.mp hc with z | z
          · exact hs.1 c z
          · exact h.osub c (List.mem_filter.mp z).1
        · exact hs.1 c ((List.takeWhile_sublist _).subset hc)
      · unfold afS
        split
        · rw [List.nodup_append]
          refine ⟨hs.2, h.ond.filter _, fun a ha b hb e => ?_⟩
          have := (List.mem_filter.mp hb).2
          simp at this
          exact this (e ▸ ha)
        · exact hs.2.sublist (List.takeWhile_sublist _)
    | cut b i =>
      show KnOk K (afC K rules keys cs o k n m b i)
      unfold afC
      have sub : (plcK K rules keys cs o k).Sublist K := List.filter_sublist.trans h.known
      split
      · split
        · trivial
        · exact h
      · split
        · split
          · split
            · exact h
            · trivial
          · refine ⟨h.cs, h.osub, h.ond, sub, fun j e => ?_⟩
            cases e
            split <;> omega
        · refine ⟨h.cs, h.osub, h.ond, sub, fun j e => ?_⟩
          split at e
          · cases e; omega
          · cases e
    | col l => exact ⟨h.cs, h.osub, h.ond, List.filter_sublist.trans h.known, h.most⟩
    | grp w r => exact h
theorem stK_ok : KnOk K (stK K rules keys) := ⟨⟨.nil, fun _ h => nomatch h⟩, fun _ h => (nomatch h), .nil, List.Sublist.refl _, fun i e => by
  split at e
  · cases e; decide
  · cases e⟩
end
end Pu
namespace Pu
open PySem PySem.Spec PyProof.Rows L2
section
variable {K : PySem.W.Frag} {pn : Pn} {F H : Hp} {b : Nat} {v : V}
theorem BV.lstE {ds : List PyData} (bv : BV K pn F H v (.list ds)) (o : Ok pn b F H) : ∃ a vs, v = .ref a ∧ H a = some (.lst vs) ∧ ∀ F' H' b', Ok pn b' F' H' → Ext pn F H F' H' → H' a = some (.lst vs) ∧ RVs K F' vs ds := by
  rcases bv with bv | ⟨xs, e, a, vs, rfl, f, np, nc, ha, r⟩
  · cases bv with
    | lst h r => exact ⟨_, _, rfl, o.sub _ _ h, fun F' H' b' o' x => ⟨o'.sub _ _ (x.fsub _ _ h), r.mono x.fsub⟩⟩
  · cases e
    exact ⟨a, vs, rfl, ha, fun F' H' b' o' x => ⟨(x.keep _ _ ha f np).1, r.mono x.fsub⟩⟩
end
section
variable {X : Cx}
theorem i_zipB {a c : Expr} {t u : WE} {p pos tpos : Pos} {elts : List Expr} {kk : Nat} (hg : Gl X "zip") (hm : X.mg "zip" = none) (ha : EB X a t) (hb : EB X c u)
    (hs : starEach [a, c] X.env = (false, eval a X.env) :: starEach [c] X.env := by rfl) (hs2 : starEach [c] X.env = (false, eval c X.env) :: starEach [] X.env := by rfl) (hpl : (backTo pos (starEach [c] X.env)).any (·.1) = false := by rfl) :
    PI X (.Tuple elts kk tpos) (.Call (.Name "zip" p) [a, c] [] pos) (lI X.K true false (wZip t u)) :=
  PI.imp (RZ.pi_zipA hg hm (pa_cons ha (pa_cons hb pa_nil hs2) hs) hs hpl) fun σ H R ⟨pn, F, env, b, P, rep, w, k⟩ => by
    refine ⟨pn, F, env, b, _, rep, w, fun v x F1 H1 b1 o1 e1 bv t1 => ?_⟩
    refine ⟨pn, F1, env, b1, _, rep.ext o1 e1, t1, fun v2 y F2 H2 b2 o2 e2 bu t2 => ?_⟩
    have bv2 := bv.ext e2
    cases x with
    | list xs => cases y with
      | list ys =>
        obtain ⟨a1, vs, rfl, h1, k1⟩ := bv2.lstE o2
        obtain ⟨a2, us, rfl, h2, k2⟩ := bu.lstE o2
        exact ⟨_, _, _, _, rfl, .inl ⟨SqL.of h1, SqL.of h2, k _ F2 H2 b2 _ o2 (e1.trans e2) (it_zip fun F H b o c => ⟨_, _, (k1 _ _ _ o c).1, (k1 _ _ _ o c).2, (k2 _ _ _ o c).1, (k2 _ _ _ o c).2⟩) t2⟩⟩
      | _ => exact t2.elim
    | tuple xs => cases y with
      | tuple ys =>
        rcases bv2 with rv | ⟨_, z, _⟩
        · rcases bu with ru | ⟨_, z, _⟩
          · cases rv with
            | tup h r => cases ru with
              | tup h2 r2 => exact ⟨_, _, _, _, rfl, .inr ⟨Same.tup o2.sub h.sq, Same.tup o2.sub h2.sq, k _ F2 H2 b2 _ o2 (e1.trans e2) (it_zipT fun F H b o c => ⟨_, _, Same.tup o.sub (Same.tup c.fsub h.sq), r.mono c.fsub, Same.tup o.sub (Same.tup c.fsub h2.sq), r2.mono c.fsub⟩) t2⟩⟩
          · cases z
        · cases z
      | _ => exact t2.elim
    | _ => exact t2.elim
end
end Pu
namespace Lw
open PySem PySem.Spec PyProof.Rows L2 Pu
def t__law_spread : WS := (sSeq (sIf (wTt (wOp pGe (wVar 0) (wOp pPow (wC (.int 10)) (wC (.int 18)))))
  (sRet (wVal 0))
  sNext)
  (sSeq (sSet (fz (wLst (wCons (wC (.int 2147483629)) (wCons (wC (.int 2147483587)) (wCons (wC (.int 2147483579)) (wCons (wC (.int 2147483563)) (wCons (wC (.int 2147483549)) (wCons (wC (.int 2147483543)) (wCons (wC (.int 2147483497)) (wCons (wC (.int 2147483489)) wNil)))))))))) 2)
  (sSeq (sSet (wOp pAdd (wVar 2) (fz (wLst (wCons (wC (.int 2147483477)) (wCons (wC (.int 2147483423)) (wCons (wC (.int 2147483399)) (wCons (wC (.int 2147483353)) (wCons (wC (.int 2147483323)) wNil)))))))) 2)
  (sSeq (sSet (wOp pMod (wOp pPow (wOp pAdd (wOp pAdd (wOp pMulT (wOp pMod (wVar 0) (wC (.int 1000000007))) (wOp pAdd (wOp pMulT (wC (.int 2)) (wVar 1)) (wC (.int 69069)))) (wOp pMulT (wVar 1) (wC (.int 40503)))) (wC (.int 977))) (wC (.int 3))) (wOp pIx (wVar 2) (wOp pMod (wVar 1) (wC (.int 13))))) 3)
  (sSeq (sSet (wOp pMod (wOp pPow (wOp pAdd (wOp pAdd (wOp pMulT (wVar 3) (wOp pAdd (wVar 1) (wC (.int 3)))) (wOp pMod (wVar 0) (wC (.int 65537)))) (wC (.int 5))) (wC (.int 5))) (wOp pIx (wVar 2) (wOp pMod (wOp pAdd (wVar 1) (wC (.int 5))) (wC (.int 13))))) 4)
  (sSeq (sSet (wOp pMod (wOp pPow (wOp pAdd (wOp pAdd (wVar 4) (wOp pMod (wVar 3) (wC (.int 1009)))) (wVar 1)) (wC (.int 3))) (wOp pIx (wVar 2) (wOp pMod (wOp pAdd (wVar 1) (wC (.int 7))) (wC (.int 13))))) 5)
  (sRet (wOp pAdd (wOp pMulT (wOp pAdd (wOp pMulT (wVar 3) (wC (.int 2147483647))) (wVar 4)) (wC (.int 2147483647))) (wVar 5)))))))))
def w__law_spread : WD := wDef 2 6 t__law_spread
/-- a draw: any number below the amount -/
def w__law_take : WD := fun ss b P => ∃ n : Int, ss = [.p, .d (.int n)] ∧ 0 < n ∧ n < 1073741824 ∧ 0 < b ∧ ∀ r : Int, 0 ≤ r → r < n → P (.int r) (b - 1)
def t__law_subset : WS := (sRet (wMS pJoin (wC (.str "")) (fz (fLc (wSeq (wVar 1)) (.nm 2) (wTt (wOp pEq2 (wCall w__law_take (wAName 0 (wACons (wC (.int 2)) wANil))) (wC (.int 0)))) (wVal 2) [2]))))
def w__law_subset : WD := wDef 2 3 t__law_subset
def t__law_draw_schema : WS := (sSeq (sSet (wOp pIx (fz (wLst (wCons (wC (.str "abcde")) (wCons (wC (.str "acxyz")) (wCons (wC (.str "bdeqz")) (wCons (wC (.str "hijkl")) (wCons (wC (.str "gnopr")) (wCons (wC (.str "rsuvw")) (wCons (wC (.str "fmtwy")) wNil))))))))) (wCall w__law_take (wAName 0 (wACons (wC (.int 7)) wANil)))) 2)
  (sSeq (sAsg (wTup (wCons (wSl (wVar 2) wNoPart (wPart (wOp pAdd (wC (.int 1)) (wCall w__law_take (wAName 0 (wAName 1 wANil)))))) (wCons (fz (wLst wNil)) (wCons (fz (wLst wNil)) wNil)))) (.tp [3, 4, 5]))
  (sSeq (sFor (wRng1 (wOp pIx (fz (wLst (wCons (wC (.int 0)) (wCons (wC (.int 0)) (wCons (wC (.int 1)) (wCons (wC (.int 2)) (wCons (wC (.int 3)) wNil))))))) (wCall w__law_take (wAName 0 (wACons (wC (.int 5)) wANil))))) (.nm 6)
  (sPick 3 0 7 8 w__law_take w__law_subset (sSet (wOp pAdd (wVar 4) (wOp pMulT (fz (wLst (wCons (wTup (wCons (wVal 8) (wCons (wVal 7) wNil))) wNil))) (w1 pInt (wOp (pIn2 true) (wTup (wCons (wVal 8) (wCons (wVal 7) wNil))) (wVar 4))))) 4)))
  (sSeq (sIf (wTt (wOp pEq2 (wCall w__law_take (wAName 0 (wACons (wC (.int 6)) wANil))) (wC (.int 0))))
  (sSeq (sSet (w1 pRevE (fz (fLc (wRng1 (wOp pSub (w1 pLen (wVar 3)) (wC (.int 1)))) (.nm 10) wYes (wTup (wCons (wOp pIx (wVar 3) (wVar 10)) (wCons (wOp pIx (wVar 3) (wOp pAdd (wVar 10) (wC (.int 1)))) wNil))) [10]))) 4)
  (sSet (wOp pAdd (wVar 4) (wOp pMulT (fz (wLst (wCons (wTup (wCons (wC (.str "")) (wCons (wOp pIx (wVar 3) (wC (.int 0))) wNil))) wNil))) (wCall w__law_take (wAName 0 (wACons (wC (.int 2)) wANil))))) 4))
  sNext)
  (sSeq (sFor (wRng1 (wOp pIx (fz (wLst (wCons (wC (.int 0)) (wCons (wC (.int 0)) (wCons (wC (.int 1)) (wCons (wC (.int 2)) wNil)))))) (wCall w__law_take (wAName 0 (wACons (wC (.int 4)) wANil))))) (.nm 6)
  (sSeq (sSet (wOrE (wCall w__law_subset (wAName 0 (wAName 3 wANil))) (wOp pIx (wVar 3) (wNeg (wC (.int 1))))) 9)
  (sSet (wOp pAdd (wVar 5) (wOp pMulT (fz (wLst (wCons (wVal 9) wNil))) (w1 pInt (wOp (pIn2 true) (wVar 9) (wVar 5))))) 5)))
  (sRet (wTup (wCons (wVal 3) (wCons (w1 pTupA (wVar 4)) (wCons (w1 pTupA (wVar 5)) wNil))))))))))
def w__law_draw_schema : WD := wDef 2 11 t__law_draw_schema
def t__law_mixed : WS := (sSeq (sSet (wC (.str "")) 2)
  (sSeq (sFor (wSeq (wVal 1)) (.nm 3)
  (sSeq (sSet (wCall w__law_take (wAName 0 (wACons (wOp pAdd (w1 pLen (wVar 2)) (wC (.int 1))) wANil))) 4)
  (sSet (wOp pAdd (wOp pAdd (wSl (wVar 2) wNoPart (wPart (wVar 4))) (wVar 3)) (wSl (wVar 2) (wPart (wVar 4)) wNoPart)) 2)))
  (sRet (wVal 2))))
def w__law_mixed : WD := wDef 2 5 t__law_mixed
def t__law_draw_step : WS := (sSeq (sSet (wCall w__law_take (wAName 0 (wACons (wC (.int 9)) wANil))) 4)
  (sSeq (sIf (wAndT (wTt (wOp pLt (wVar 4) (wC (.int 4)))) (wNotT (wTru (wVar 2))))
  (sSeq (sSet (wCall w__law_mixed (wAName 0 (wACons (wOrE (wCall w__law_subset (wAName 0 (wAName 1 wANil))) (wSl (wVar 1) wNoPart (wPart (wC (.int 1))))) wANil))) 5)
  (sRet (wTup (wCons (wOp pIx (fz (wLst (wCons (wC (.str "sort")) (wCons (wC (.str "sort")) (wCons (wC (.str "sort")) (wCons (wC (.str "stable")) wNil)))))) (wVar 4)) (wCons (wVal 5) wNil)))))
  sNext)
  (sSeq (sIf (wAndT (wTt (wOp pLt (wVar 4) (wC (.int 6)))) (wTru (wVar 2)))
  (sRet (wTup (wCons (wOp pIx (fz (wLst (wCons (wC (.str "first")) (wCons (wC (.str "first")) (wCons (wC (.str "skip")) wNil))))) (wOp pMod (wVar 4) (wC (.int 3)))) (wCons (wCall w__law_take (wAName 0 (wACons (wOp pIx (fz (wLst (wCons (wVal 3) (wCons (wVal 3) (wCons (wVal 3) (wCons (wC (.int 21)) wNil)))))) (wCall w__law_take (wAName 0 (wACons (wC (.int 4)) wANil)))) wANil))) wNil))))
  sNext)
  (sSeq (sIf (wTt (wOp pEq2 (wVar 4) (wC (.int 8))))
  (sRet (wTup (wCons (wC (.str "columns")) (wCons (wOrE (wCall w__law_subset (wAName 0 (wAName 1 wANil))) (wVal 1)) wNil))))
  sNext)
  (sRet (wTup (wCons (wC (.str "where")) (wCons (wOp pIx (wVar 1) (wCall w__law_take (wAName 0 (wACons (w1 pLen (wVar 1)) wANil)))) (wCons (wOp pSub (wCall w__law_take (wAName 0 (wACons (wC (.int 3)) wANil))) (wOp pIx (fz (wLst (wCons (wC (.int 0)) (wCons (wC (.int 2)) (wCons (wC (.int 11)) (wCons (wNeg (wC (.int 8))) (wCons (wNeg (wC (.int 1000))) wNil))))))) (wCall w__law_take (wAName 0 (wACons (wC (.int 5)) wANil))))) wNil)))))))))
def w__law_draw_step : WD := wDef 4 6 t__law_draw_step
def t__law_draw_report : WS := (sSeq (sParL 4 5 (wOp pIx (wVar 1) (wC (.int 0))) (wLst wNil))
  (sSeq (sSet (wCall w__law_take (wAName 0 (wACons (wOp pAdd (wVar 2) (wC (.int 1))) wANil))) 6)
  (sSeq (sFor (wRng1 (wCall w__law_take (wAName 0 (wACons (wOp pAdd (wVar 2) (wC (.int 1))) wANil)))) (.nm 7)
  (sSeq (sSet (wCall w__law_draw_step (wAName 0 (wAName 4 (wACons (wOp pGe (wVar 7) (wVar 6)) (wAName 3 wANil))))) 8)
  (sSeq (sSet (wIfE (wTt (wOp pEq2 (wOp pIx (wVar 8) (wC (.int 0))) (wC (.str "columns")))) (wOp pIx (wVar 8) (wC (.int 1))) (wVal 4)) 4)
  (sApp 5 (wVal 8)))))
  (sSeq (sSet (wCall w__law_take (wAName 0 (wACons (wC (.int 8)) wANil))) 9)
  (sSeq (sSet (wOrE (wCall w__law_subset (wAName 0 (wAName 4 wANil))) (wOp pIx (wVar 4) (wNeg (wC (.int 1))))) 10)
  (sSeq (sSet (fz (fLc (wSeq (wVar 4)) (.nm 12) (wTt (wOp (pIn2 true) (wVar 12) (wVar 10))) (wVal 12) [12])) 11)
  (sSeq (sIf (wTt (wOp pEq2 (wVar 9) (wC (.int 0))))
  (sApp 5 (wTup (wCons (wC (.str "count")) (wCons (wVal 10) wNil))))
  (sIf (wAndT (wTt (wOp pEq2 (wVar 9) (wC (.int 1)))) (wTt (wOp pNe2 (wVar 11) (fz (wLst wNil)))))
  (sApp 5 (wTup (wCons (wC (.str "sum")) (wCons (wVal 10) (wCons (wOp pIx (wVar 11) (wCall w__law_take (wAName 0 (wACons (w1 pLen (wVar 11)) wANil)))) wNil)))))
  (sIf (wTt (wOp pEq2 (wVar 9) (wC (.int 2))))
  (sApp 5 (wTup (wCons (wC (.str "heads")) (wCons (wVal 10) wNil))))
  sNext)))
  (sRet (w1 pTupA (wVar 5))))))))))
def w__law_draw_report : WD := wDef 4 13 t__law_draw_report
def t__law_names : WS := (sRet (wMS pJoin (wC (.str "")) (fz (fLc (wSeq (wVar 0)) (.tp [1, 2]) wYes (wVal 1) [1, 2]))))
def w__law_names : WD := wDef 1 3 t__law_names
def t__law_all_in : WS := (sRet (wOp pEq2 (fz (fLc (wSeq (wVar 0)) (.nm 2) (wTt (wOp (pIn2 true) (wVar 2) (wVar 1))) (wVal 2) [2])) (fz (wLst wNil))))
def w__law_all_in : WD := wDef 2 3 t__law_all_in
def t__law_closure : WS := (sSeq (sAsg (wTup (wCons (wVal 1) (wCons (wC .none) wNil))) (.tp [2, 3]))
  (sSeq (sWhile (wTt (wOp pNe2 (wVar 2) (wVar 3)))
  (sSeq (sSet (wVal 2) 3)
  (sSeq (sFor (wSeq (wOp pIx (wVar 0) (wC (.int 1)))) (.tp [4, 5])
  (sIf (wAndT (wTru (wCall w__law_all_in (wAName 4 (wAName 2 wANil)))) (wTt (wOp (pIn2 true) (wVar 5) (wVar 2))))
  (sSet (wOp pAdd (wVar 2) (wVar 5)) 2)
  sNext))
  (sIf (wTt (wOp (pIn2 false) (wC (.bool true)) (fz (fLc (wSeq (wOp pIx (wVar 0) (wC (.int 2)))) (.nm 6) wYes (wCall w__law_all_in (wAName 6 (wAName 2 wANil))) [6]))))
  (sSet (wOp pIx (wVar 0) (wC (.int 0))) 2)
  sNext))))
  (sRet (wMS pJoin (wC (.str "")) (fz (fLc (wSeq (wOp pIx (wVar 0) (wC (.int 0)))) (.nm 7) (wTt (wOp (pIn2 false) (wVar 7) (wVar 2))) (wVal 7) [7]))))))
def w__law_closure : WD := wDef 2 8 t__law_closure
def t__law_is_one : WS := (sSeq (sSet (wCall w__law_closure (wAName 0 (wAName 1 wANil))) 2)
  (sRet (wOp (pIn2 false) (wC (.bool true)) (fz (fLc (wSeq (wOp pIx (wVar 0) (wC (.int 2)))) (.nm 3) wYes (wCall w__law_all_in (wAName 3 (wAName 2 wANil))) [3])))))
def w__law_is_one : WD := wDef 2 4 t__law_is_one
def t__law_after_where : WS := (sSeq (sAsg (wVal 1) (.tp [4, 5, 6, 7, 8]))
  (sSeq (sIf (wTt (wOp (pIn2 false) (wVar 2) (wCall w__law_names (wAName 4 wANil))))
  (sRet (wIfE (wTt (wOp pEq2 (wDGet (wVar 4) (wVar 2) (wC .none)) (wVar 3))) (wVal 1) (wTup (wCons (wC (.str "empty")) wNil))))
  sNext)
  (sSeq (sSet (w1 pTupA (fz (w1L pSort (wOp pAdd (wVar 4) (wTup (wCons (wTup (wCons (wVal 2) (wCons (wVal 3) wNil))) wNil)))))) 4)
  (sSeq (sIf (wTt (wOp (pIn2 true) (wVar 2) (wVar 6)))
  (sAsg (wTup (wCons (wC (.str "")) (wCons (wC (.bool false)) wNil))) (.tp [6, 7]))
  sNext)
  (sRet (wTup (wCons (wVal 4) (wCons (wVal 5) (wCons (wVal 6) (wCons (wVal 7) (wCons (wIfE (wTru (wCall w__law_is_one (wAName 0 (wACons (wCall w__law_names (wAName 4 wANil)) wANil)))) (wC (.int 1)) (wVal 8)) wNil)))))))))))
def w__law_after_where : WD := wDef 4 9 t__law_after_where
def t__law_after_sort : WS := (sSeq (sAsg (wVal 0) (.tp [3, 4, 5, 6, 7]))
  (sSeq (sSet (wC (.int 0)) 8)
  (sSeq (sWhile (wAndT (wTt (wOp pNe2 (wSl (wVar 2) (wPart (wVar 8)) (wPart (wOp pAdd (wVar 8) (wC (.int 1))))) (wC (.str "")))) (wTt (wOp (pIn2 false) (wOp pIx (wVar 2) (wVar 8)) (wVar 5))))
  (sSet (wOp pAdd (wVar 8) (wC (.int 1))) 8))
  (sSeq (sSet (wMS pJoin (wC (.str "")) (fz (fLc (wSeq (wVar 4)) (.nm 10) (wTt (wOp (pIn2 true) (wVar 10) (wVar 2))) (wVal 10) [10]))) 9)
  (sRet (wTup (wCons (wVal 3) (wCons (wOp pAdd (wSl (wVar 2) wNoPart (wPart (wVar 8))) (wOp pMulV (wVar 9) (w1 pInt (wAndE (wOp pEq2 (wVar 1) (wC (.str "stable"))) (wOp pEq2 (wVar 8) (w1 pLen (wVar 2))))))) (wCons (wVal 5) (wCons (wVal 6) (wCons (wVal 7) wNil)))))))))))
def w__law_after_sort : WD := wDef 3 11 t__law_after_sort
def t__law_placed : WS := (sSeq (sAsg (wVal 1) (.tp [2, 3, 4, 5, 6]))
  (sSeq (sSet (wCall w__law_closure (wAName 0 (wACons (wOp pAdd (wVar 3) (wCall w__law_names (wAName 2 wANil))) wANil))) 7)
  (sRet (wMS pJoin (wC (.str "")) (fz (fLc (wSeq (wVar 4)) (.nm 8) (wTt (wOp (pIn2 false) (wVar 8) (wVar 7))) (wVal 8) [8]))))))
def w__law_placed : WD := wDef 2 9 t__law_placed
def t__law_after : WS := (sSeq (sIf (wOrT (wTt (wOp pEq2 (wVar 1) (wTup (wCons (wC (.str "empty")) wNil)))) (wTt (wOp (pIn2 false) (wOp pIx (wVar 2) (wC (.int 0))) (fz (wLst (wCons (wC (.str "count")) (wCons (wC (.str "sum")) (wCons (wC (.str "heads")) wNil))))))))
  (sRet (wVal 1))
  sNext)
  (sSeq (sIf (wTt (wOp pEq2 (wOp pIx (wVar 2) (wC (.int 0))) (wC (.str "where"))))
  (sRet (wCall w__law_after_where (wAName 0 (wAName 1 (wACons (wOp pIx (wVar 2) (wC (.int 1))) (wACons (wOp pIx (wVar 2) (wC (.int 2))) wANil))))))
  sNext)
  (sSeq (sIf (wTt (wOp (pIn2 false) (wOp pIx (wVar 2) (wC (.int 0))) (fz (wLst (wCons (wC (.str "sort")) (wCons (wC (.str "stable")) wNil))))))
  (sRet (wCall w__law_after_sort (wAName 1 (wACons (wOp pIx (wVar 2) (wC (.int 0))) (wACons (wOp pIx (wVar 2) (wC (.int 1))) wANil)))))
  sNext)
  (sSeq (sAsg (wVal 1) (.tp [3, 4, 5, 6, 7]))
  (sSeq (sIf (wTt (wOp pEq2 (wOp pIx (wVar 2) (wC (.int 0))) (wC (.str "columns"))))
  (sRet (wTup (wCons (wVal 3) (wCons (wVal 4) (wCons (wMS pJoin (wC (.str "")) (fz (fLc (wSeq (wVar 5)) (.nm 9) (wTt (wOp (pIn2 false) (wVar 9) (wOp pIx (wVar 2) (wC (.int 1))))) (wVal 9) [9]))) (wCons (wVal 6) (wCons (wVal 7) wNil)))))))
  sNext)
  (sSeq (sIf (wTt (wOp pEq2 (wOp pIx (wVar 2) (wC (.int 1))) (wC (.int 0))))
  (sRet (wIfE (wTt (wOp pEq2 (wOp pIx (wVar 2) (wC (.int 0))) (wC (.str "first")))) (wTup (wCons (wC (.str "empty")) wNil)) (wVal 1)))
  sNext)
  (sSeq (sIf (wAndT (wTt (wOp (pIs true) (wVar 7) (wC .none))) (wTt (wOp pLe (wVar 7) (wOp pIx (wVar 2) (wC (.int 1))))))
  (sRet (wIfE (wTt (wOp pEq2 (wOp pIx (wVar 2) (wC (.int 0))) (wC (.str "first")))) (wVal 1) (wTup (wCons (wC (.str "empty")) wNil))))
  sNext)
  (sSeq (sSet (wIfE (wTt (wOp pEq2 (wOp pIx (wVar 2) (wC (.int 0))) (wC (.str "first")))) (wOp pIx (wVar 2) (wC (.int 1))) (wIfE (wTt (wOp (pIs false) (wVar 7) (wC .none))) (wC .none) (wOp pSub (wVar 7) (wOp pIx (wVar 2) (wC (.int 1)))))) 8)
  (sRet (wTup (wCons (wVal 3) (wCons (wVal 4) (wCons (wCall w__law_placed (wAName 0 (wAName 1 wANil))) (wCons (wVal 6) (wCons (wVal 8) wNil)))))))))))))))
def w__law_after : WD := wDef 3 10 t__law_after
def t__law_derive : WS := (sSeq (sSetL (wLst (wCons (wTup (wCons (wTup wNil) (wCons (wC (.str "")) (wCons (wOp pIx (wVar 0) (wC (.int 0))) (wCons (wC (.bool true)) (wCons (wIfE (wTru (wCall w__law_is_one (wAName 0 (wACons (wC (.str "")) wANil)))) (wC (.int 1)) (wC .none)) wNil)))))) wNil)) 2)
  (sSeq (sFor (wSeq (wVal 1)) (.nm 3)
  (sApp 2 (wCall w__law_after (wAName 0 (wACons (wOp pIx (wVar 2) (wNeg (wC (.int 1)))) (wAName 3 wANil))))))
  (sRetN 2)))
def w__law_derive : WD := wDef 2 4 t__law_derive
def t_contains : WS := (sRet (w1 pAll (fz (fLc (wSeq (wVar 1)) (.nm 2) wYes (wOp (pIn2 false) (wVar 2) (wVar 0)) [2]))))
def w_contains : WD := wDef 2 3 t_contains
def t__has_key : WS := (sRet (w1 pAny (fz (fLc (wSeq (wVar 1)) (.nm 2) wYes (wCall w_contains (wAName 0 (wAName 2 wANil))) [2]))))
def w__has_key : WD := wDef 2 3 t__has_key
def t_common : WS := (sRet (wMS pJoin (wC (.str "")) (fz (fLc (wSeq (wVar 0)) (.nm 2) (wTt (wOp (pIn2 false) (wVar 2) (wVar 1))) (wVal 2) [2]))))
def w_common : WD := wDef 2 3 t_common
def t__closure_round : WS := (sSeq (sAsg (wVal 0) (.tp [2, 3, 4]))
  (sSeq (sIf (wTru (wCall w__has_key (wAName 1 (wAName 4 wANil))))
  (sRet (wVal 2))
  sNext)
  (sSeq (sSet (fz (fLc (wSeq (wVar 3)) (.tp [6, 7]) (wTru (wCall w_contains (wAName 1 (wAName 6 wANil)))) (wVal 7) [6, 7])) 5)
  (sRet (wCall w_common (wAName 2 (wACons (wOp pAdd (wVar 1) (wMS pJoin (wC (.str "")) (wVar 5))) wANil)))))))
def w__closure_round : WD := wDef 2 8 t__closure_round
def t_closure : WS := (sSeq (sSet (wVal 1) 2)
  (sSeq (sFor (wSeq (wOp pIx (wVar 0) (wC (.int 0)))) (.nm 3)
  (sSet (wCall w__closure_round (wAName 0 (wAName 2 wANil))) 2))
  (sRet (wVal 2))))
def w_closure : WD := wDef 2 4 t_closure
def t_is_unique : WS := (sRet (wCall w__has_key (wACons (wCall w_closure (wAName 0 (wAName 1 wANil))) (wACons (wOp pIx (wVar 0) (wC (.int 2))) wANil))))
def w_is_unique : WD := wDef 2 2 t_is_unique
def t_start_knowledge : WS := (sSeq (sSet (wIfE (wTru (wCall w_is_unique (wAName 0 (wACons (wC (.str "")) wANil)))) (wC (.int 1)) (wC .none)) 1)
  (sRet (wTup (wCons (wTup wNil) (wCons (wC (.str "")) (wCons (wOp pIx (wVar 0) (wC (.int 0))) (wCons (wC (.bool true)) (wCons (wVal 1) wNil))))))))
def w_start_knowledge : WD := wDef 1 2 t_start_knowledge
def d_EMPTY : PyData := .tuple [.str "empty"]
def t__after_where : WS := (sSeq (sAsg (wVal 1) (.tp [4, 5, 6, 7, 8]))
  (sSeq (sDictK (wVar 4) 9)
  (sSeq (sIf (wTt (wKIn (wVar 2) 9 false))
  (sRet (wIfE (wTt (wOp pEq2 (wKGet (wVar 2) 9) (wVar 3))) (wVal 1) (wC d_EMPTY)))
  sNext)
  (sSeq (sKSet 9 (wVar 2) (wVal 3))
  (sSeq (sIf (wTt (wOp (pIn2 true) (wVar 2) (wVar 6)))
  (sAsg (wTup (wCons (wC (.str "")) (wCons (wC (.bool false)) wNil))) (.tp [6, 7]))
  sNext)
  (sSeq (sIf (wTru (wCall w_is_unique (wAName 0 (wACons (wCall w_common (wACons (wOp pIx (wVar 0) (wC (.int 0))) (wACons (fz (wKList 9)) wANil))) wANil))))
  (sSet (wC (.int 1)) 8)
  sNext)
  (sRet (wTup (wCons (w1 pTupA (fz (wKSort 9))) (wCons (wVal 5) (wCons (wVal 6) (wCons (wVal 7) (wCons (wVal 8) wNil)))))))))))))
def w__after_where : WD := wDef 4 10 t__after_where
def t__known_beginning : WS := (sSeq (sFor (wEnumT (wVal 1)) (.tp [2, 3])
  (sIf (wTt (wOp (pIn2 true) (wVar 3) (wVar 0)))
  (sRet (wSl (wVar 1) wNoPart (wPart (wVar 2))))
  sNext))
  (sRet (wVal 1)))
def w__known_beginning : WD := wDef 2 4 t__known_beginning
def t__after_sorting : WS := (sSeq (sAsg (wVal 0) (.tp [3, 4, 5, 6, 7]))
  (sSeq (sSet (wCall w__known_beginning (wAName 5 (wAName 2 wANil))) 8)
  (sSeq (sIf (wAndT (wTt (wOp pEq2 (wVar 1) (wC (.str "stable")))) (wTt (wOp pEq2 (wVar 8) (wVar 2))))
  (sSet (wOp pAdd (wVar 2) (wMS pJoin (wC (.str "")) (fz (fLc (wSeq (wVar 4)) (.nm 9) (wTt (wOp (pIn2 true) (wVar 9) (wVar 2))) (wVal 9) [9])))) 8)
  sNext)
  (sRet (wTup (wCons (wVal 3) (wCons (wVal 8) (wCons (wVal 5) (wCons (wVal 6) (wCons (wVal 7) wNil))))))))))
def w__after_sorting : WD := wDef 3 10 t__after_sorting
def t_determined : WS := (sSeq (sAsg (wSl (wVar 1) wNoPart (wPart (wC (.int 2)))) (.tp [3, 4]))
  (sSeq (sSet (wOp pAdd (wOp pAdd (wMS pJoin (wC (.str "")) (fz (fLc (wSeq (wVar 3)) (.tp [6, 7]) wYes (wVal 6) [6, 7]))) (wVar 4)) (wVar 2)) 5)
  (sRet (wCall w_closure (wAName 0 (wACons (wCall w_common (wACons (wOp pIx (wVar 0) (wC (.int 0))) (wAName 5 wANil))) wANil))))))
def w_determined : WD := wDef 3 8 t_determined
def t__placed : WS := (sRet (wCall w_common (wACons (wOp pIx (wVar 1) (wC (.int 2))) (wACons (wCall w_determined (wAName 0 (wAName 1 (wACons (wC (.str "")) wANil)))) wANil))))
def w__placed : WD := wDef 2 2 t__placed
def t__after_first : WS := (sSeq (sAsg (wVal 1) (.tp [3, 4, 5, 6, 7]))
  (sSeq (sIf (wTt (wOp pEq2 (wVar 2) (wC (.int 0))))
  (sRet (wC d_EMPTY))
  sNext)
  (sSeq (sIf (wAndT (wTt (wOp (pIs true) (wVar 7) (wC .none))) (wTt (wOp pLe (wVar 7) (wVar 2))))
  (sRet (wVal 1))
  sNext)
  (sRet (wTup (wCons (wVal 3) (wCons (wVal 4) (wCons (wCall w__placed (wAName 0 (wAName 1 wANil))) (wCons (wVal 6) (wCons (wVal 2) wNil))))))))))
def w__after_first : WD := wDef 3 8 t__after_first
def t__after_skip : WS := (sSeq (sAsg (wVal 1) (.tp [3, 4, 5, 6, 7]))
  (sSeq (sIf (wTt (wOp pEq2 (wVar 2) (wC (.int 0))))
  (sRet (wVal 1))
  sNext)
  (sSeq (sIf (wTt (wOp (pIs false) (wVar 7) (wC .none)))
  (sRet (wTup (wCons (wVal 3) (wCons (wVal 4) (wCons (wCall w__placed (wAName 0 (wAName 1 wANil))) (wCons (wVal 6) (wCons (wC .none) wNil)))))))
  sNext)
  (sSeq (sIf (wTt (wOp pLe (wVar 7) (wVar 2)))
  (sRet (wC d_EMPTY))
  sNext)
  (sRet (wTup (wCons (wVal 3) (wCons (wVal 4) (wCons (wCall w__placed (wAName 0 (wAName 1 wANil))) (wCons (wVal 6) (wCons (wOp pSub (wVar 7) (wVar 2)) wNil)))))))))))
def w__after_skip : WD := wDef 3 8 t__after_skip
def d_SORTING : PyData := .tuple [.str "sort", .str "stable"]
def d_GROUPING : PyData := .tuple [.str "count", .str "sum", .str "heads"]
def t_knowledge_after : WS := (sSeq (sSet (wOp pIx (wVar 2) (wC (.int 0))) 3)
  (sSeq (sIf (wOrT (wTt (wOp pEq2 (wVar 1) (wC d_EMPTY))) (wTt (wOp (pIn2 false) (wVar 3) (wC d_GROUPING))))
  (sRet (wVal 1))
  sNext)
  (sSeq (sIf (wTt (wOp pEq2 (wVar 3) (wC (.str "where"))))
  (sRet (wCall w__after_where (wAName 0 (wAName 1 (wACons (wOp pIx (wVar 2) (wC (.int 1))) (wACons (wOp pIx (wVar 2) (wC (.int 2))) wANil))))))
  sNext)
  (sSeq (sIf (wTt (wOp (pIn2 false) (wVar 3) (wC d_SORTING)))
  (sRet (wCall w__after_sorting (wAName 1 (wAName 3 (wACons (wOp pIx (wVar 2) (wC (.int 1))) wANil)))))
  sNext)
  (sSeq (sIf (wTt (wOp pEq2 (wVar 3) (wC (.str "first"))))
  (sRet (wCall w__after_first (wAName 0 (wAName 1 (wACons (wOp pIx (wVar 2) (wC (.int 1))) wANil)))))
  sNext)
  (sSeq (sIf (wTt (wOp pEq2 (wVar 3) (wC (.str "skip"))))
  (sRet (wCall w__after_skip (wAName 0 (wAName 1 (wACons (wOp pIx (wVar 2) (wC (.int 1))) wANil)))))
  sNext)
  (sSeq (sAsg (wVal 1) (.tp [4, 5, 6, 7, 8]))
  (sRet (wTup (wCons (wVal 4) (wCons (wVal 5) (wCons (wCall w_common (wAName 6 (wACons (wOp pIx (wVar 2) (wC (.int 1))) wANil))) (wCons (wVal 7) (wCons (wVal 8) wNil))))))))))))))
def w_knowledge_after : WD := wDef 3 9 t_knowledge_after
def t_derive : WS := (sSeq (sSetL (wLst (wCons (wCall w_start_knowledge (wAName 0 wANil)) wNil)) 2)
  (sSeq (sFor (wSeq (wVal 1)) (.nm 3)
  (sApp 2 (wCall w_knowledge_after (wAName 0 (wACons (wOp pIx (wVar 2) (wNeg (wC (.int 1)))) (wAName 3 wANil))))))
  (sRetO 2)))
def w_derive : WDO := wDefO 2 4 t_derive
def t__law_same (w : WD) : WS := (sSeq (sIf (wOrT (wTt (wOp (pIs false) (wVar 1) (wC .none))) (wTt (wOp (pIs false) (wVar 0) (wC .none))))
  (sRet (wAndE (wOp (pIs false) (wVar 1) (wC .none)) (wOp (pIs false) (wVar 0) (wC .none))))
  sNext)
  (sSeq (sIf (wOrT (wTru (w1 (pIsi ["bool"]) (wVar 1))) (wTru (w1 (pIsi ["bool"]) (wVar 0))))
  (sRet (wAndE (w1 (pIsi ["bool"]) (wVar 1)) (wAndE (w1 (pIsi ["bool"]) (wVar 0)) (wOp pEq2 (wVar 0) (wVar 1)))))
  sNext)
  (sSeq (sIf (wTru (w1 (pIsi ["int", "str"]) (wVar 1)))
  (sSeq (sIf (wTt (wOp pNe2 (w1 (pIsi ["int"]) (wVar 0)) (w1 (pIsi ["int"]) (wVar 1))))
  (sRet (wC (.bool false)))
  sNext)
  (sRet (wAndE (w1 (pIsi ["int", "str"]) (wVar 0)) (wOp pEq2 (wVar 0) (wVar 1)))))
  sNext)
  (sSeq (sIf (wOrT (wTt (wOp pNe2 (w1 (pIsi ["tuple"]) (wVar 1)) (w1 (pIsi ["tuple"]) (wVar 0)))) (wTt (wOp pNe2 (w1 (pIsi ["list"]) (wVar 1)) (w1 (pIsi ["list"]) (wVar 0)))))
  (sRet (wC (.bool false)))
  sNext)
  (sSeq (sIf (wTt (wOp pNe2 (w1 pLen (wVar 0)) (w1 pLen (wVar 1))))
  (sRet (wC (.bool false)))
  sNext)
  (sRet (wOp (pIn2 true) (wC (.bool false)) (fz (fLc (wZip (wVar 0) (wVar 1)) (.tp [2, 3]) wYes (wCall w (wAName 2 (wAName 3 wANil))) [2, 3])))))))))
def w__law_same : Nat → WD
  | 0 => fun _ _ _ => False
  | n + 1 => wDef 2 4 (t__law_same (w__law_same n))
def t_kept_after : WS := (sRet (wIfE (wTt (wOp pEq2 (wOp pIx (wVar 1) (wC (.int 0))) (wC (.str "columns")))) (wOp pIx (wVar 1) (wC (.int 1))) (wVal 0)))
def w_kept_after : WD := wDef 2 2 t_kept_after
def t_kept_columns : WS := (sSeq (sSet (wOp pIx (wVar 0) (wC (.int 0))) 2)
  (sSeq (sFor (wSeq (wVal 1)) (.nm 3)
  (sSet (wCall w_kept_after (wAName 2 (wAName 3 wANil))) 2))
  (sRet (wVal 2))))
def w_kept_columns : WD := wDef 2 4 t_kept_columns
def t_settles : WS := (sSeq (sIf (wTt (wOp pEq2 (wVar 2) (wC d_EMPTY)))
  (sRet (wC (.bool true)))
  sNext)
  (sSeq (sAsg (wSl (wVar 2) (wPart (wC (.int 2))) wNoPart) (.tp [3, 4, 5]))
  (sSeq (sIf (wNotT (wTru (wVar 4)))
  (sRet (wC (.bool false)))
  sNext)
  (sSeq (sSet (wIfE (wTru (wVar 1)) (wOp pIx (wOp pIx (wVar 1) (wNeg (wC (.int 1)))) (wC (.int 0))) (wC (.str ""))) 6)
  (sSeq (sIf (wTt (wOp pEq2 (wVar 6) (wC (.str "count"))))
  (sRet (wCall w_contains (wAName 3 (wACons (wOp pIx (wOp pIx (wVar 1) (wNeg (wC (.int 1)))) (wC (.int 1))) wANil))))
  sNext)
  (sSeq (sIf (wTt (wOp pEq2 (wVar 6) (wC (.str "sum"))))
  (sRet (wCall w_contains (wAName 3 (wACons (wOp pAdd (wOp pIx (wOp pIx (wVar 1) (wNeg (wC (.int 1)))) (wC (.int 1))) (wOp pIx (wOp pIx (wVar 1) (wNeg (wC (.int 1)))) (wC (.int 2)))) wANil))))
  sNext)
  (sSeq (sSet (wCall w_kept_columns (wAName 0 (wAName 1 wANil))) 7)
  (sSeq (sIf (wNotT (wTru (wCall w_contains (wAName 3 (wAName 7 wANil)))))
  (sRet (wC (.bool false)))
  sNext)
  (sSeq (sSet (wIfE (wTt (wOp pEq2 (wVar 6) (wC (.str "heads")))) (wOp pIx (wOp pIx (wVar 1) (wNeg (wC (.int 1)))) (wC (.int 1))) (wC (.str ""))) 8)
  (sRet (wOrE (wOp pEq2 (wVar 5) (wC (.int 1))) (wCall w_contains (wACons (wCall w_determined (wAName 0 (wAName 2 (wAName 8 wANil)))) (wAName 7 wANil))))))))))))))
def w_settles : WD := wDef 3 9 t_settles
def t_is_settled : WS := (sRet (wCall w_settles (wAName 0 (wAName 1 (wACons (wOp pIx (wCall (fzO w_derive) (wAName 0 (wAName 1 wANil))) (wNeg (wC (.int 1)))) wANil)))))
def w_is_settled : WD := wDef 2 2 t_is_settled
def t__law_kept : WS := (sSeq (sSet (wOp pIx (wVar 0) (wC (.int 0))) 2)
  (sSeq (sFor (wSeq (wVal 1)) (.nm 3)
  (sSet (wIfE (wTt (wOp pEq2 (wOp pIx (wVar 3) (wC (.int 0))) (wC (.str "columns")))) (wOp pIx (wVar 3) (wC (.int 1))) (wVal 2)) 2))
  (sRet (wVal 2))))
def w__law_kept : WD := wDef 2 4 t__law_kept
def t__law_within : WS := (sRet (wOp pEq2 (fz (fLc (wSeq (wVar 0)) (.nm 2) (wTt (wOp (pIn2 true) (wVar 2) (wVar 1))) (wVal 2) [2])) (fz (wLst wNil))))
def w__law_within : WD := wDef 2 3 t__law_within
def t__law_settles : WS := (sSeq (sIf (wTt (wOp pEq2 (wVar 2) (wTup (wCons (wC (.str "empty")) wNil))))
  (sRet (wC (.bool true)))
  sNext)
  (sSeq (sAsg (wVal 2) (.tp [3, 4, 5, 6, 7]))
  (sSeq (sSet (wCall w__law_kept (wAName 0 (wAName 1 wANil))) 8)
  (sSeq (sIf (wNotT (wTru (wVar 6)))
  (sRet (wC (.bool false)))
  sNext)
  (sSeq (sIf (wOrT (wTt (wOp pEq2 (wVar 1) (wTup wNil))) (wTt (wOp (pIn2 true) (wOp pIx (wOp pIx (wVar 1) (wNeg (wC (.int 1)))) (wC (.int 0))) (fz (wLst (wCons (wC (.str "count")) (wCons (wC (.str "sum")) (wCons (wC (.str "heads")) wNil))))))))
  (sRet (wOrE (wCall w__law_within (wAName 8 (wACons (wCall w__law_placed (wAName 0 (wAName 2 wANil))) wANil))) (wAndE (wOp pEq2 (wVar 7) (wC (.int 1))) (wCall w__law_within (wAName 8 (wAName 5 wANil))))))
  sNext)
  (sSeq (sSet (wOp pIx (wVar 1) (wNeg (wC (.int 1)))) 9)
  (sSeq (sIf (wOrT (wNotT (wTru (wCall w__law_within (wACons (wOp pIx (wVar 9) (wC (.int 1))) (wAName 5 wANil))))) (wAndT (wTt (wOp pEq2 (wOp pIx (wVar 9) (wC (.int 0))) (wC (.str "sum")))) (wTt (wOp (pIn2 true) (wOp pIx (wVar 9) (wC (.int 2))) (wVar 5)))))
  (sRet (wC (.bool false)))
  sNext)
  (sSeq (sIf (wTt (wOp pNe2 (wOp pIx (wVar 9) (wC (.int 0))) (wC (.str "heads"))))
  (sRet (wC (.bool true)))
  sNext)
  (sSeq (sSet (wCall w__law_closure (wAName 0 (wACons (wOp pAdd (wOp pAdd (wOp pIx (wVar 9) (wC (.int 1))) (wVar 4)) (wCall w__law_names (wAName 3 wANil))) wANil))) 10)
  (sRet (wAndE (wCall w__law_within (wAName 8 (wAName 5 wANil))) (wOrE (wOp pEq2 (wVar 7) (wC (.int 1))) (wCall w__law_within (wAName 8 (wAName 10 wANil)))))))))))))))
def w__law_settles : WD := wDef 3 11 t__law_settles
end Lw
namespace Lw
open PySem PySem.Spec PyProof.Rows L2 Pu SeqAt PuS
local macro_rules
  | `(tactic| walk_at "s") => `(tactic| first
    | with_reducible refine n_seq ?_
    | with_reducible refine n_set ?_
    | with_reducible refine n_setL ?_
    | with_reducible refine n_ret ?_
    | with_reducible refine n_if ?_
    | with_reducible refine n_par ?_
    | with_reducible refine n_parL ?_
    | with_reducible refine n_next ?_
    | with_reducible refine n_asg ?_
    | with_reducible refine m_c ?_
    | with_reducible refine m_d0 ?_
    | ((with_reducible apply m_var); (exact rfl))
    | ((with_reducible apply m_val); (exact rfl))
    | with_reducible refine m_z ?_
    | with_reducible refine m_op h2_add ?_
    | with_reducible refine m_op h2_mulT ?_
    | with_reducible refine m_op h2_eq ?_
    | with_reducible refine m_op h2_ne2 ?_
    | with_reducible refine m_op h2_in ?_
    | with_reducible refine m_op h2_is ?_
    | with_reducible refine m_op h2_ix ?_
    | with_reducible refine m_op h2_lt ?_
    | with_reducible refine m_op h2_le ?_
    | with_reducible refine m_op h2_gt ?_
    | with_reducible refine m_op h2_ge ?_
    | with_reducible refine m_op h2_sub ?_
    | with_reducible refine m_op h2_mod ?_
    | with_reducible refine m_opL h2_catL ?_
    | with_reducible refine m_opL h2_repL ?_
    | with_reducible refine m_1 h1_len ?_
    | with_reducible refine m_1 h1_tupA ?_
    | with_reducible refine m_op h2_pow ?_
    | with_reducible refine m_1 h1_int ?_
    | with_reducible refine m_1 h1_all ?_
    | with_reducible refine m_1 h1_any ?_
    | with_reducible refine m_1 h1_isi ?_
    | with_reducible refine m_1 h1_lenSet ?_
    | with_reducible refine m_1 h1_lenSet2 ?_
    | with_reducible refine m_op h2_mulV ?_
    | with_reducible refine m_sort ?_
    | with_reducible refine n_dictK ?_
    | ((with_reducible apply m_kin); (exact rfl))
    | ((with_reducible apply m_kget); (exact rfl))
    | ((with_reducible apply n_kset); (exact rfl))
    | ((with_reducible apply m_klist); (exact rfl))
    | with_reducible refine m_dget2 ?_
    | with_reducible refine m_1 h1_revE ?_
    | with_reducible refine m_1L h1_listA ?_
    | with_reducible refine m_1L h1_listL ?_
    | with_reducible refine m_1L h1_sortSet ?_
    | with_reducible refine m_ms hm_join ?_
    | with_reducible refine m_ms hm_index ?_
    | with_reducible refine m_tt ?_
    | with_reducible refine m_tru ?_
    | with_reducible refine m_notT ?_
    | with_reducible refine m_andT ?_
    | with_reducible refine m_orT ?_
    | with_reducible refine m_yes ?_
    | with_reducible refine m_ifE ?_
    | with_reducible refine m_andE ?_
    | with_reducible refine m_orE ?_
    | with_reducible refine m_notE ?_
    | with_reducible refine m_neg ?_
    | with_reducible refine m_nil ?_
    | with_reducible refine m_cons ?_
    | with_reducible refine m_tup ?_
    | with_reducible refine m_lst ?_
    | with_reducible refine m_aNil ?_
    | with_reducible refine m_aCons ?_
    | ((with_reducible apply m_aName); (exact rfl))
    | with_reducible refine m_call ?_
    | with_reducible refine m_noPart ?_
    | with_reducible refine m_part ?_
    | with_reducible refine m_sl ?_
    | with_reducible refine m_slL ?_
    | with_reducible refine m_ch h2_le h2_le ?_
    | with_reducible refine m_seq ?_
    | with_reducible refine m_rng1 ?_
    | with_reducible refine m_zip ?_
    | with_reducible refine m_enumT ?_)
local macro_rules
  | `(tactic| walk_at "e") => `(tactic| first
    | with_reducible refine ⟨_, eq_int _ _, ?_⟩
    | with_reducible refine ⟨_, ix_t0 _ _, ?_⟩
    | with_reducible refine ⟨_, ix_t1 _ _ _, ?_⟩
    | with_reducible refine ⟨_, ix_t2 _ _ _ _, ?_⟩
    | with_reducible refine ⟨_, ne2_int _ _, ?_⟩
    | with_reducible refine ⟨_, eq_str _ _, ?_⟩
    | with_reducible refine ⟨_, in_sg _ _, ?_⟩
    | with_reducible refine ⟨_, eq_tup0 _, ?_⟩
    | with_reducible refine ⟨_, in_chs _ _, ?_⟩
    | with_reducible refine ⟨_, nodup_eq _, ?_⟩
    | with_reducible refine ⟨_, sorted_eq _, ?_⟩
    | with_reducible refine ⟨_, rfl, ?_⟩)
local macro_rules
  | `(tactic| walk_at "r") => `(tactic| refine ⟨_, rfl, ?_⟩)
local macro_rules
  | `(tactic| walk_at "t") => `(tactic| refine ⟨fun _ => ?_, fun h => Bool.noConfusion (show true = false from h)⟩)
local macro_rules
  | `(tactic| walk_at "f") => `(tactic| refine ⟨fun h => Bool.noConfusion (show false = true from h), fun _ => ?_⟩)
/-- data without dicts, not too deep -/
def Sm : Nat → PyData → Prop
  | _, .none => True
  | _, .bool _ => True
  | _, .int _ => True
  | _, .str _ => True
  | d + 1, .tuple xs => xs.length ≤ 1000 ∧ ∀ x ∈ xs, Sm d x
  | d + 1, .list xs => xs.length ≤ 1000 ∧ ∀ x ∈ xs, Sm d x
  | _, _ => False
theorem in_falseT {α : Type} (xs : List α) : eIn true (.bool false) (.list (xs.map fun _ => .bool true)) = some (.bool true) := by
  show eInL true (.bool false) (.list _) = _
  unfold eInL
  show (if _ then _ else _) = _
  rw [if_pos (by simp [dfree, PyData.depth])]
  refine congrArg (fun b => some (PyData.bool b)) ?_
  rw [List.any_map]
  have : ((fun z => PyData.eqv z (.bool false)) ∘ fun _ : α => PyData.bool true) = fun _ => false := by
    funext x
    show PyData.eqv (.bool true) (.bool false) = _
    simp [PyData.eqv]
  rw [this]
  simp
theorem zip_self : ∀ xs : List PyData, zipD xs xs = xs.map fun x => .tuple [x, x]
  | [] => rfl
  | x :: r => congrArg (PyData.tuple [x, x] :: ·) (zip_self r)
section
variable {n : Nat} {Q : PyData → Nat → Prop}
theorem law_same_bool (d : Nat) (i j : Bool) (q : Q (.bool (decide (i = j))) n) : MD (w__law_same (d + 1)) [.d (.bool i), .d (.bool j)] n Q := by
  refine md_def rfl rfl ?_
  unfold t__law_same
  (repeat walk_at "s"); walk_at "r"; walk_at "r"; walk_at "f"
  (repeat walk_at "s"); walk_at "r"; walk_at "r"; walk_at "f"
  (repeat walk_at "s"); walk_at "r"; walk_at "r"; walk_at "t"; walk_at "t"
  (repeat walk_at "s"); walk_at "r"; walk_at "r"; walk_at "t"
  (repeat walk_at "s"); walk_at "r"; walk_at "r"; walk_at "t"
  (repeat walk_at "s")
  refine ⟨_, rfl, ?_⟩
  have e : PyData.eqv (.bool i) (.bool j) = decide (i = j) := by cases i <;> cases j <;> rfl
  rw [e]
  exact q
theorem law_same_none (d : Nat) (q : Q (.bool true) n) : MD (w__law_same (d + 1)) [.d .none, .d .none] n Q := by
  refine md_def rfl rfl ?_
  unfold t__law_same
  (repeat walk_at "s"); walk_at "r"; walk_at "r"; walk_at "t"; walk_at "t"
  (repeat walk_at "s"); walk_at "r"; walk_at "r"; walk_at "t"
  (repeat walk_at "s"); walk_at "r"
  exact q
theorem law_same_str (d : Nat) (z : Str) (q : Q (.bool true) n) : MD (w__law_same (d + 1)) [.d (.str z), .d (.str z)] n Q := by
  refine md_def rfl rfl ?_
  unfold t__law_same
  (repeat walk_at "s"); walk_at "r"; walk_at "r"; walk_at "f"
  (repeat walk_at "s"); walk_at "r"; walk_at "r"; walk_at "f"
  (repeat walk_at "s"); walk_at "r"; walk_at "r"; walk_at "f"
  (repeat walk_at "s"); walk_at "r"; walk_at "r"; walk_at "f"
  (repeat walk_at "s"); walk_at "r"; walk_at "r"; walk_at "t"
  (repeat walk_at "s"); walk_at "r"; (repeat walk_at "s"); walk_at "r"; walk_at "r"; walk_at "r"; walk_at "f"
  (repeat walk_at "s"); walk_at "r"; walk_at "r"; walk_at "t"
  (repeat walk_at "s")
  refine ⟨_, eq_str _ _, ?_⟩
  rw [show isS z (.str z) = true from decide_eq_true rfl]
  exact q
theorem law_same_int (d : Nat) (z : Int) (q : Q (.bool true) n) : MD (w__law_same (d + 1)) [.d (.int z), .d (.int z)] n Q := by
  refine md_def rfl rfl ?_
  unfold t__law_same
  (repeat walk_at "s"); walk_at "r"; walk_at "r"; walk_at "f"
  (repeat walk_at "s"); walk_at "r"; walk_at "r"; walk_at "f"
  (repeat walk_at "s"); walk_at "r"; walk_at "r"; walk_at "f"
  (repeat walk_at "s"); walk_at "r"; walk_at "r"; walk_at "f"
  (repeat walk_at "s"); walk_at "r"; walk_at "r"; walk_at "t"
  (repeat walk_at "s"); walk_at "r"; (repeat walk_at "s"); walk_at "r"; walk_at "r"; walk_at "r"; walk_at "f"
  (repeat walk_at "s"); walk_at "r"; walk_at "r"; walk_at "t"
  (repeat walk_at "s")
  refine ⟨_, eq_int _ _, ?_⟩
  rw [decide_eq_true rfl]
  exact q
theorem law_same_tup (d : Nat) {xs : List PyData} (few : xs.length ≤ 1000) (each : ∀ x ∈ xs, ∀ {n : Nat} {Q : PyData → Nat → Prop}, Q (.bool true) n → MD (w__law_same d) [.d x, .d x] n Q) (q : Q (.bool true) n) : MD (w__law_same (d + 1)) [.d (.tuple xs), .d (.tuple xs)] n Q := by
  refine md_def rfl rfl ?_
  unfold t__law_same
  (repeat walk_at "s"); walk_at "r"; walk_at "r"; walk_at "f"
  (repeat walk_at "s"); walk_at "r"; walk_at "r"; walk_at "f"
  (repeat walk_at "s"); walk_at "r"; walk_at "r"; walk_at "f"
  (repeat walk_at "s"); walk_at "r"; walk_at "r"; walk_at "f"
  (repeat walk_at "s"); walk_at "r"; walk_at "r"; walk_at "f"
  (repeat walk_at "s"); walk_at "r"; (repeat walk_at "s"); walk_at "r"; walk_at "r"; walk_at "r"; walk_at "f"
  (repeat walk_at "s"); walk_at "r"; (repeat walk_at "s"); walk_at "r"; walk_at "r"; walk_at "r"; walk_at "f"
  (repeat walk_at "s"); walk_at "r"; (repeat walk_at "s"); walk_at "r"
  refine ⟨_, ne2_int _ _, ?_⟩
  rw [decide_eq_true rfl]
  walk_at "r"; walk_at "f"
  walk_at "s"
  walk_at "s"; walk_at "s"; walk_at "s"; walk_at "s"
  refine m_lcM xs (fun x => .tuple [x, x]) (fun _ => .bool true) ?_
  (repeat walk_at "s")
  refine ⟨xs, xs, .inr ⟨rfl, rfl⟩, zip_self xs, by rw [sizeLine_eq]; omega, fun x hx => ⟨_, rfl, fun m => ?_⟩, _, in_falseT xs, q⟩
  (repeat walk_at "s")
  exact each x hx ⟨rfl, rfl⟩
theorem law_same_lst (d : Nat) {xs : List PyData} (few : xs.length ≤ 1000) (each : ∀ x ∈ xs, ∀ {n : Nat} {Q : PyData → Nat → Prop}, Q (.bool true) n → MD (w__law_same d) [.d x, .d x] n Q) (q : Q (.bool true) n) : MD (w__law_same (d + 1)) [.d (.list xs), .d (.list xs)] n Q := by
  refine md_def rfl rfl ?_
  unfold t__law_same
  (repeat walk_at "s"); walk_at "r"; walk_at "r"; walk_at "f"
  (repeat walk_at "s"); walk_at "r"; walk_at "r"; walk_at "f"
  (repeat walk_at "s"); walk_at "r"; walk_at "r"; walk_at "f"
  (repeat walk_at "s"); walk_at "r"; walk_at "r"; walk_at "f"
  (repeat walk_at "s"); walk_at "r"; walk_at "r"; walk_at "f"
  (repeat walk_at "s"); walk_at "r"; (repeat walk_at "s"); walk_at "r"; walk_at "r"; walk_at "r"; walk_at "f"
  (repeat walk_at "s"); walk_at "r"; (repeat walk_at "s"); walk_at "r"; walk_at "r"; walk_at "r"; walk_at "f"
  (repeat walk_at "s"); walk_at "r"; (repeat walk_at "s"); walk_at "r"
  refine ⟨_, ne2_int _ _, ?_⟩
  rw [decide_eq_true rfl]
  walk_at "r"; walk_at "f"
  walk_at "s"
  walk_at "s"; walk_at "s"; walk_at "s"; walk_at "s"
  refine m_lcM xs (fun x => .tuple [x, x]) (fun _ => .bool true) ?_
  (repeat walk_at "s")
  refine ⟨xs, xs, .inl ⟨rfl, rfl⟩, zip_self xs, by rw [sizeLine_eq]; omega, fun x hx => ⟨_, rfl, fun m => ?_⟩, _, in_falseT xs, q⟩
  (repeat walk_at "s")
  exact each x hx ⟨rfl, rfl⟩
theorem law_same_refl : ∀ (d : Nat) {x : PyData} {n : Nat} {Q : PyData → Nat → Prop}, Sm d x → Q (.bool true) n → MD (w__law_same (d + 1)) [.d x, .d x] n Q
  | d, .none, _, _, _, q => law_same_none d q
  | d, .bool b, _, _, _, q => law_same_bool d b b (by rw [decide_eq_true rfl]; exact q)
  | d, .int i, _, _, _, q => law_same_int d i q
  | d, .str z, _, _, _, q => law_same_str d z q
  | d + 1, .tuple xs, _, _, h, q => law_same_tup (d + 1) h.1 (fun x hx => law_same_refl d (h.2 x hx)) q
  | d + 1, .list xs, _, _, h, q => law_same_lst (d + 1) h.1 (fun x hx => law_same_refl d (h.2 x hx)) q
  | 0, .tuple _, _, _, h, _ => h.elim
  | 0, .list _, _, _, h, _ => h.elim
  | 0, .dict _, _, _, h, _ => h.elim
  | _ + 1, .dict _, _, _, h, _ => h.elim
theorem sm_kn {K : List Nat} (hK : ColsOk K) {kn : Kn} (h : KnOk K kn) : Sm 7 (knD kn) := by
  cases kn with
  | emp => exact ⟨by show 1 ≤ 1000; decide, fun x hx => by rw [List.mem_singleton.mp hx]; trivial⟩
  | kn cs o k c m =>
    have h : KnP K cs o k m := h
    have few := h.cs.few hK
    refine ⟨by show 5 ≤ 1000; decide, fun x hx => ?_⟩
    simp only [List.mem_cons, List.not_mem_nil, or_false] at hx
    rcases hx with rfl | rfl | rfl | rfl | rfl
    · refine ⟨by rw [List.length_map]; omega, fun y hy => ?_⟩
      obtain ⟨p, _, rfl⟩ := List.mem_map.mp hy
      refine ⟨by show 2 ≤ 1000; decide, fun z hz => ?_⟩
      simp only [List.mem_cons, List.not_mem_nil, or_false] at hz
      rcases hz with rfl | rfl <;> trivial
    · trivial
    · trivial
    · trivial
    · cases m <;> trivial
end
section
variable {n : Nat} {Q : PyData → Nat → Prop} {K : Str} {a b c v : PyData} {sr : List PyData}
theorem take_run {k : Int} (h0 : 0 < k) (h1 : k < 1073741824) (hn : 1 ≤ n) (q : ∀ r : Int, 0 ≤ r → r < k → Q (.int r) (n - 1)) : MD w__law_take [.p, .d (.int k)] n Q :=
  fun b P hb kk => ⟨k, rfl, h0, h1, by omega, fun r r0 r1 => kk _ (n - 1) (b - 1) (q r r0 r1) (by omega)⟩
/-- .. of a natural number -/
theorem take_nat {k : Nat} (h0 : 0 < k) (h1 : k < 1073741824) (hn : 1 ≤ n) (q : ∀ r : Nat, r < k → Q (.int r) (n - 1)) : MD w__law_take [.p, .d (.int k)] n Q :=
  take_run (by omega) (by omega) hn fun r r0 r1 => by
    have := q r.toNat (by omega)
    rwa [Int.toNat_of_nonneg r0] at this
theorem subset_run {z : Str} (hz : (Ls z).length ≤ 1000) (hn : (Ls z).length ≤ n) (q : ∀ l m, l.Sublist (Ls z) → n ≤ m + (Ls z).length → Q (.str (tx l)) m) : MD w__law_subset [.p, .d (.str z)] n Q := by
  refine md_def rfl rfl ?_
  unfold t__law_subset
  (repeat walk_at "s")
  refine ⟨_, rfl, ?_⟩
  (repeat walk_at "s")
  refine m_lc ?_
  (repeat walk_at "s")
  refine ⟨_, seq_str z, by rw [List.length_map, sizeLine_eq]; omega, fun rest acc m => ∃ (rl done l : List Nat), Ls z = done ++ rl ∧ rest = rl.map sg ∧ acc = l.map sg ∧ l.Sublist done ∧ n ≤ m + done.length, ⟨Ls z, [], [], rfl, rfl, rfl, List.Sublist.refl _, by simp⟩, fun x rest acc m hJ => ?_, fun acc m hJ => ?_⟩
  · obtain ⟨rl, done, l, e1, e2, e3, sb, hm⟩ := hJ
    cases rl with
    | nil => cases e2
    | cons c rl =>
    rw [List.map_cons] at e2
    obtain ⟨rfl, rfl⟩ := List.cons.inj e2
    have hl := congrArg List.length e1
    rw [List.length_append, List.length_cons] at hl
    refine ⟨_, rfl, ?_⟩
    (repeat walk_at "s")
    refine take_run (by decide) (by decide) (by omega) fun r r0 r1 => ?_
    (repeat walk_at "s"); walk_at "e"; walk_at "r"
    refine ⟨fun h => ?_, fun h => ?_⟩
    · (repeat walk_at "s")
      exact ⟨rl, done ++ [c], l ++ [c], by rw [e1]; simp, rfl, by rw [e3]; simp, sb.append_right [c], by rw [List.length_append]; simp; omega⟩
    · exact ⟨rl, done ++ [c], l, by rw [e1]; simp, rfl, e3, sb.trans (List.sublist_append_left _ _), by rw [List.length_append]; simp; omega⟩
  · obtain ⟨rl, done, l, e1, e2, e3, sb, hm⟩ := hJ
    have e0 : rl = [] := by cases rl with | nil => rfl | cons c r => cases e2
    subst e0
    rw [List.append_nil] at e1
    rw [← e1] at sb hm
    subst e3
    exact ⟨_, join_sg (Nat.le_trans sb.length_le hz), q l m sb hm⟩
theorem mixed_run {z : Str} (hz : (Ls z).length ≤ 1000) (hn : (Ls z).length ≤ n) (q : ∀ l m, l.Perm (Ls z) → n ≤ m + (Ls z).length → Q (.str (tx l)) m) : MD w__law_mixed [.p, .d (.str z)] n Q := by
  refine md_def rfl rfl ?_
  unfold t__law_mixed
  (repeat walk_at "s")
  refine n_for ?_
  (repeat walk_at "s")
  refine ⟨_, seq_str z, fun rest e m => ∃ (rl done l : List Nat) (x3 x4 : Option Sl), Ls z = done ++ rl ∧ rest = rl.map sg ∧ e = [some .p, some (.d (.str z)), some (.d (.str (tx l))), x3, x4] ∧ l.Perm done ∧ n ≤ m + done.length, ⟨Ls z, [], [], none, none, rfl, rfl, rfl, List.Perm.refl _, by simp⟩, fun x rest e m hJ => ?_, fun e m hJ => ?_⟩
  · obtain ⟨rl, done, l, x3, x4, e1, e2, rfl, pm, hm⟩ := hJ
    cases rl with
    | nil => cases e2
    | cons c rl =>
    rw [List.map_cons] at e2
    obtain ⟨rfl, rfl⟩ := List.cons.inj e2
    have hl := congrArg List.length e1
    rw [List.length_append, List.length_cons] at hl
    have lp := pm.length_eq
    refine ⟨_, rfl, ?_⟩
    (repeat walk_at "s")
    refine ⟨_, len_str (by rw [Ls_tx]; omega), ?_⟩
    (repeat walk_at "s")
    refine ⟨.int ((l.length + 1 : Nat) : Int), by rw [Ls_tx]; rfl, ?_⟩
    (repeat walk_at "s")
    refine take_nat (by omega) (by omega) (by omega) fun r hr => ?_
    (repeat walk_at "s")
    refine ⟨_, rfl, ?_⟩
    (repeat walk_at "s")
    refine ⟨_, sl_to (by omega) (by omega), ?_⟩
    (repeat walk_at "s")
    refine ⟨_, add_str (by rw [Ls_tx, List.length_take]; show min r l.length + 1 ≤ _; omega), ?_⟩
    (repeat walk_at "s")
    refine ⟨_, rfl, ?_⟩
    (repeat walk_at "s")
    refine ⟨_, sl_from (by omega) (by omega), ?_⟩
    refine ⟨_, add_str (by rw [Ls_tx, Ls_tx, Ls_tx, List.length_append, List.length_take, List.length_drop]; show min r l.length + 1 + (l.length - r) ≤ _; omega), ?_⟩
    rw [Ls_tx, Ls_tx, Ls_tx]
    refine ⟨rl, done ++ [c], l.take r ++ [c] ++ l.drop r, _, _, by rw [e1]; simp, rfl, rfl, ?_, by rw [List.length_append]; simp; omega⟩
    have h1 : (l.take r ++ [c] ++ l.drop r).Perm (l.take r ++ l.drop r ++ [c]) := by
      rw [List.append_assoc, List.append_assoc]
      exact List.Perm.append_left _ List.perm_append_comm
    rw [List.take_append_drop] at h1
    exact h1.trans (pm.append_right [c])
  · obtain ⟨rl, done, l, x3, x4, e1, e2, rfl, pm, hm⟩ := hJ
    have e0 : rl = [] := by cases rl with | nil => rfl | cons c r => cases e2
    subst e0
    rw [List.append_nil] at e1
    rw [← e1] at pm hm
    (repeat walk_at "s")
    exact q l m pm hm
end
section
variable {n : Nat} {Q : PyData → Nat → Prop}
theorem letters_ok (r : Nat) (h : r < 7) : ∃ l : List Nat, ([.str "abcde", .str "acxyz", .str "bdeqz", .str "hijkl", .str "gnopr", .str "rsuvw", .str "fmtwy"] : List PyData)[r]'h = .str (tx l) ∧ l.length = 5 ∧ l.Pairwise (· < ·) ∧ ∀ c ∈ l, 97 ≤ c ∧ c < 123 := by
  match r, h with
  | 0, _ => exact ⟨[97, 98, 99, 100, 101], congrArg PyData.str (by decide +kernel), rfl, by decide, by decide⟩
  | 1, _ => exact ⟨[97, 99, 120, 121, 122], congrArg PyData.str (by decide +kernel), rfl, by decide, by decide⟩
  | 2, _ => exact ⟨[98, 100, 101, 113, 122], congrArg PyData.str (by decide +kernel), rfl, by decide, by decide⟩
  | 3, _ => exact ⟨[104, 105, 106, 107, 108], congrArg PyData.str (by decide +kernel), rfl, by decide, by decide⟩
  | 4, _ => exact ⟨[103, 110, 111, 112, 114], congrArg PyData.str (by decide +kernel), rfl, by decide, by decide⟩
  | 5, _ => exact ⟨[114, 115, 117, 118, 119], congrArg PyData.str (by decide +kernel), rfl, by decide, by decide⟩
  | 6, _ => exact ⟨[102, 109, 116, 119, 121], congrArg PyData.str (by decide +kernel), rfl, by decide, by decide⟩
theorem rng_len (j : Nat) : (rngD 0 j).length = j := by simp [rngD]
theorem rng_at {lo : Int} {k : Nat} {x : PyData} {r : List PyData} (j : Nat) (h : x :: r = (rngD lo j).drop k) : x = .int (lo + k) ∧ r = (rngD lo j).drop (k + 1) ∧ k < j := by
  have hk : k < (rngD lo j).length := by
    rcases Nat.lt_or_ge k (rngD lo j).length with q | q
    · exact q
    · rw [List.drop_of_length_le q] at h; cases h
  rw [List.drop_eq_getElem_cons hk] at h
  obtain ⟨e1, e2⟩ := List.cons.inj h
  refine ⟨?_, e2, by simpa [rngD] using hk⟩
  rw [e1]
  simp [rngD]
theorem _root_.Pu.RulesOk.add {K : List Nat} {rules : List Rule} {p : Rule} (h : RulesOk K rules) (hp : p.1.Sublist K ∧ p.2 ∈ K ∧ p.2 ∉ p.1) (hn : p ∉ rules) (few : rules.length ≤ 5) : RulesOk K (rules ++ [p]) := by
  refine ⟨fun q hq => ?_, ?_, by rw [List.length_append]; simp; omega⟩
  · rcases List.mem_append.mp hq with hq | hq
    · exact h.one q hq
    · rw [List.mem_singleton] at hq; subst hq; exact hp
  · rw [List.nodup_append]
    exact ⟨h.nodup, by simp, fun a ha b hb => by rw [List.mem_singleton] at hb; subst hb; intro e; subst e; exact hn ha⟩
theorem _root_.Pu.KeysOk.add {K : List Nat} {keys : List (List Nat)} {p : List Nat} (h : KeysOk K keys) (hp : p.Sublist K ∧ p ≠ []) (hn : p ∉ keys) (few : keys.length ≤ 1) : KeysOk K (keys ++ [p]) := by
  refine ⟨fun q hq => ?_, ?_, by rw [List.length_append]; simp; omega⟩
  · rcases List.mem_append.mp hq with hq | hq
    · exact h.one q hq
    · rw [List.mem_singleton] at hq; subst hq; exact hp
  · rw [List.nodup_append]
    exact ⟨h.nodup, by simp, fun a ha b hb => by rw [List.mem_singleton] at hb; subst hb; intro e; subst e; exact hn ha⟩
/-- rules one after another: each column determines the next -/
def chainR : List Nat → List Rule
  | a :: b :: r => ([a], b) :: chainR (b :: r)
  | _ => []
theorem chain_one : ∀ {K : List Nat}, K.Pairwise (· < ·) → ∀ p ∈ chainR K, ∃ a b, p = ([a], b) ∧ a ∈ K ∧ b ∈ K ∧ a < b
  | [], _, p, h => by cases h
  | [a], _, p, h => by cases h
  | a :: b :: r, hK, p, h => by
    obtain ⟨h1, h2⟩ := List.pairwise_cons.mp hK
    rcases List.mem_cons.mp h with e | h
    · exact ⟨a, b, e, by simp, by simp, h1 b (by simp)⟩
    · obtain ⟨x, y, e, hx, hy, l⟩ := chain_one h2 p h
      exact ⟨x, y, e, List.mem_cons_of_mem _ hx, List.mem_cons_of_mem _ hy, l⟩
theorem chain_nodup : ∀ {K : List Nat}, K.Pairwise (· < ·) → (chainR K).Nodup
  | [], _ => by simp [chainR]
  | [a], _ => by simp [chainR]
  | a :: b :: r, hK => by
    obtain ⟨h1, h2⟩ := List.pairwise_cons.mp hK
    refine List.nodup_cons.mpr ⟨fun h => ?_, chain_nodup h2⟩
    obtain ⟨x, y, e, hx, _, _⟩ := chain_one h2 _ h
    have : a = x := by simpa using congrArg Prod.fst e
    subst this
    have := h1 a hx
    omega
theorem chain_len : ∀ K : List Nat, (chainR K).length = K.length - 1
  | [] => rfl
  | [a] => rfl
  | a :: b :: r => by simp [chainR, chain_len (b :: r)]
theorem chain_get : ∀ {K : List Nat} {k : Nat} (h : k + 1 < K.length), (chainR K)[k]? = some ([K[k]], K[k + 1])
  | [], k, h => by simp at h
  | [a], k, h => by simp at h
  | a :: b :: r, 0, h => rfl
  | a :: b :: r, k + 1, h => by
    have := chain_get (K := b :: r) (k := k) (by simpa using h)
    simpa [chainR] using this
theorem chain_ok {K : List Nat} (hK : ColsOk K) (t : Nat) (ht : t ≤ 1) : RulesOk K ((chainR K).reverse ++ (List.replicate t [([], K.head hK.some)]).flatten) := by
  have h0 : RulesOk K (chainR K).reverse := by
    refine ⟨fun p hp => ?_, List.pairwise_reverse.mpr ((chain_nodup hK.asc).imp fun h => Ne.symm h), by rw [List.length_reverse, chain_len]; have := hK.few; omega⟩
    obtain ⟨a, b, rfl, ha, hb, l⟩ := chain_one hK.asc p (List.mem_reverse.mp hp)
    exact ⟨List.singleton_sublist.mpr ha, hb, by simp; omega⟩
  match t, ht with
  | 0, _ => simpa using h0
  | 1, _ =>
    have := h0.add (p := ([], K.head hK.some)) ⟨List.nil_sublist _, List.head_mem _, by simp⟩ (fun hp => by
      obtain ⟨a, b, e, _⟩ := chain_one hK.asc _ (List.mem_reverse.mp hp)
      simp at e) (by rw [List.length_reverse, chain_len]; have := hK.few; omega)
    simpa using this
theorem draw_schema_run {most : Nat} (hm : 1 ≤ most) (hm5 : most ≤ 5) (hn : 100 ≤ n) (q : ∀ K rules keys m, ColsOk K → (∀ c ∈ K, 97 ≤ c ∧ c < 123) → K.length ≤ most → RulesOk K rules → KeysOk K keys → n ≤ m + 100 → Q (schD K rules keys) m) : MD w__law_draw_schema [.p, .d (.int (most : Nat))] n Q := by
  refine md_def rfl rfl ?_
  unfold t__law_draw_schema
  (repeat walk_at "s")
  refine ⟨by show 7 ≤ sizeLine; decide, ?_⟩
  (repeat walk_at "s")
  refine take_nat (by decide) (by decide) (by omega) fun r1 h1 => ?_
  refine ⟨_, ix_nat h1, ?_⟩
  obtain ⟨ls, els, l5, lp, ll⟩ := letters_ok r1 h1
  rw [els]
  (repeat walk_at "s")
  refine take_nat (by omega) (by omega) (by omega) fun r2 h2 => ?_
  refine ⟨.int ((1 + r2 : Nat) : Int), by rw [Int.natCast_add]; rfl, ?_⟩
  refine ⟨_, rfl, ?_⟩
  refine ⟨_, sl_to (by omega) (by omega), ?_⟩
  generalize hK0 : ls.take (1 + r2) = K
  have hK : ColsOk K := by
    have hs : (ls.take (1 + r2)).Sublist ls := List.take_sublist _ _
    rw [hK0] at hs
    refine ⟨lp.sublist hs, Nat.le_trans hs.length_le (by omega), fun e => ?_, fun c hc => by have := ll c (hs.subset hc); omega⟩
    have : K.length = min (1 + r2) 5 := by rw [← hK0, List.length_take, l5]
    rw [e] at this
    simp at this
    omega
  have hLow : ∀ c ∈ K, 97 ≤ c ∧ c < 123 := fun c hc => by rw [← hK0] at hc; exact ll c ((List.take_sublist _ _).subset hc)
  have hKm : K.length ≤ most := by rw [← hK0, List.length_take]; omega
  have hK5 := hK.few
  have hKp : 0 < K.length := List.length_pos_iff.mpr hK.some
  (repeat walk_at "s")
  refine ⟨Nat.zero_le _, ?_⟩
  (repeat walk_at "s")
  refine ⟨Nat.zero_le _, ?_⟩
  (repeat walk_at "s")
  refine ⟨by show 3 ≤ sizeLine; decide, ?_⟩
  refine ⟨_, rfl, ?_⟩
  walk_at "s"
  refine n_for ?_
  (repeat walk_at "s")
  refine ⟨by show 5 ≤ sizeLine; decide, ?_⟩
  (repeat walk_at "s")
  refine take_nat (by decide) (by decide) (by omega) fun r3 h3 => ?_
  refine ⟨_, ix_ints (ns := [0, 0, 1, 2, 3]) h3, ?_⟩
  have hj : ∃ j : Nat, ([0, 0, 1, 2, 3] : List Int)[r3]'h3 = (j : Int) ∧ j ≤ 3 := by
    match r3, h3 with
    | 0, _ => exact ⟨0, rfl, by omega⟩
    | 1, _ => exact ⟨0, rfl, by omega⟩
    | 2, _ => exact ⟨1, rfl, by omega⟩
    | 3, _ => exact ⟨2, rfl, by omega⟩
    | 4, _ => exact ⟨3, rfl, by omega⟩
  obtain ⟨j, ej, hj⟩ := hj
  rw [ej]
  refine ⟨_, rfl, by omega, by omega, fun rest e m => ∃ (rules : List Rule) (x6 x7 x8 : Option Sl), rest.length + rules.length ≤ 3 ∧ RulesOk K rules ∧ n ≤ m + 3 + (3 - rest.length) * 10 ∧
      e = [some .p, some (.d (.int (most : Nat))), some (.d (.str (tx ls))), some (.d (.str (tx K))), some (.d (.list (rules.map ruD))), some (.d (.list [])), x6, x7, x8, none, none],
    ⟨[], none, none, none, by rw [Int.toNat_natCast, rng_len]; simpa using hj, ⟨by simp, by simp, by simp⟩, by omega, rfl⟩, fun x rest e m hI => ?_, fun e m hI => ?_⟩
  · obtain ⟨rules, x6, x7, x8, few, ok, hm, rfl⟩ := hI
    rw [List.length_cons] at few hm
    refine ⟨_, rfl, ?_⟩
    refine n_pick (z := tx K) rfl rfl (by rw [Ls_tx]; omega) ?_
    rw [Ls_tx]
    refine take_nat hKp (by omega) (by omega) fun i hi => ?_
    refine ⟨_, K[i], rfl, atI_nat (List.getElem?_eq_getElem hi), ?_⟩
    refine subset_run (by rw [Ls_tx]; exact Nat.le_trans (List.length_filter_le _ _) (by omega)) (by rw [Ls_tx]; have := List.length_filter_le (fun d => decide (d ≠ K[i])) K; omega) fun l m2 sl hm2 => ?_
    rw [Ls_tx] at sl hm2
    have hfl := List.length_filter_le (fun d => decide (d ≠ K[i])) K
    have pok : l.Sublist K ∧ K[i] ∈ K ∧ K[i] ∉ l := ⟨sl.trans List.filter_sublist, List.getElem_mem _, fun h => by
      have := (List.mem_filter.mp (sl.subset h)).2
      simp at this⟩
    (repeat walk_at "s")
    refine ⟨by show 2 ≤ sizeLine; decide, ?_⟩
    (repeat walk_at "s")
    refine ⟨by show 1 ≤ sizeLine; decide, ?_⟩
    (repeat walk_at "s")
    refine ⟨by show 2 ≤ sizeLine; decide, ?_⟩
    (repeat walk_at "s")
    refine ⟨_, in_rules (l, K[i]) rules, ?_⟩
    refine ⟨_, rfl, ?_⟩
    refine ⟨_, mulT_tst _ (by simp), ?_⟩
    rw [Bool.true_xor]
    by_cases hin : (l, K[i]) ∈ rules
    · rw [decide_eq_true hin]
      refine ⟨_, add_lst (by simp; omega), ?_⟩
      refine ⟨rules, _, _, _, by omega, ok, by omega, by rw [show (if (!true) = true then [PyData.tuple [.str (tx l), .str ⟨#[K[i]]⟩]] else []) = [] from rfl, List.append_nil]; rfl⟩
    · rw [decide_eq_false hin]
      refine ⟨_, add_lst (by simp; omega), ?_⟩
      refine ⟨rules ++ [(l, K[i])], some (.d x), some (.d (sg K[i])), some (.d (.str (tx l))), by rw [List.length_append]; simp; omega, ok.add pok hin (by omega), by omega, ?_⟩
      rw [List.map_append]
      rfl
  · obtain ⟨rules, x6, x7, x8, few, ok, hm, rfl⟩ := hI
    have hm0 : n ≤ m + 33 := by simpa using hm
    -- the keys, whatever the rules are
    have keysOf : ∀ (rules : List Rule) (m : Nat) (x6 x7 x8 x10 : Option Sl), RulesOk K rules → n ≤ m + 40 → MS (sSeq (sFor (wRng1 (wOp pIx (fz (wLst (wCons (wC (.int 0)) (wCons (wC (.int 0)) (wCons (wC (.int 1)) (wCons (wC (.int 2)) wNil)))))) (wCall w__law_take (wAName 0 (wACons (wC (.int 4)) wANil))))) (.nm 6)
        (sSeq (sSet (wOrE (wCall w__law_subset (wAName 0 (wAName 3 wANil))) (wOp pIx (wVar 3) (wNeg (wC (.int 1))))) 9)
        (sSet (wOp pAdd (wVar 5) (wOp pMulT (fz (wLst (wCons (wVal 9) wNil))) (w1 pInt (wOp (pIn2 true) (wVar 9) (wVar 5))))) 5)))
        (sRet (wTup (wCons (wVal 3) (wCons (w1 pTupA (wVar 4)) (wCons (w1 pTupA (wVar 5)) wNil))))))
        [some .p, some (.d (.int (most : Nat))), some (.d (.str (tx ls))), some (.d (.str (tx K))), some (.d (.list (rules.map ruD))), some (.d (.list [])), x6, x7, x8, none, x10] m (fun x m => Q PyData.none m) Q noEnd noEnd := fun rules m x6 x7 x8 x10 ok hm => by
      walk_at "s"
      refine n_for ?_
      (repeat walk_at "s")
      refine ⟨by show 4 ≤ sizeLine; decide, ?_⟩
      (repeat walk_at "s")
      refine take_nat (by decide) (by decide) (by omega) fun r4 h4 => ?_
      refine ⟨_, ix_ints (ns := [0, 0, 1, 2]) h4, ?_⟩
      have hj : ∃ j : Nat, ([0, 0, 1, 2] : List Int)[r4]'h4 = (j : Int) ∧ j ≤ 2 := by
        match r4, h4 with
        | 0, _ => exact ⟨0, rfl, by omega⟩
        | 1, _ => exact ⟨0, rfl, by omega⟩
        | 2, _ => exact ⟨1, rfl, by omega⟩
        | 3, _ => exact ⟨2, rfl, by omega⟩
      obtain ⟨j, ej, hj⟩ := hj
      rw [ej]
      refine ⟨_, rfl, by omega, by omega, fun rest e m => ∃ (keys : List (List Nat)) (x6 x9 : Option Sl), rest.length + keys.length ≤ 2 ∧ KeysOk K keys ∧ n ≤ m + 41 + (2 - rest.length) * 10 ∧
          e = [some .p, some (.d (.int (most : Nat))), some (.d (.str (tx ls))), some (.d (.str (tx K))), some (.d (.list (rules.map ruD))), some (.d (.list (keys.map keD))), x6, x7, x8, x9, x10],
        ⟨[], x6, none, by rw [Int.toNat_natCast, rng_len]; simpa using hj, ⟨by simp, by simp, by simp⟩, by omega, rfl⟩, fun x rest e m hI => ?_, fun e m hI => ?_⟩
      · obtain ⟨keys, x6, x9, few, okk, hm, rfl⟩ := hI
        rw [List.length_cons] at few hm
        refine ⟨_, rfl, ?_⟩
        have put : ∀ (l : List Nat) (m2 : Nat) (x6 : Option Sl), l.Sublist K → l ≠ [] → n ≤ m2 + 41 + (2 - rest.length) * 10 → MS (sSet (wOp pAdd (wVar 5) (wOp pMulT (fz (wLst (wCons (wVal 9) wNil))) (w1 pInt (wOp (pIn2 true) (wVar 9) (wVar 5))))) 5)
            [some .p, some (.d (.int (most : Nat))), some (.d (.str (tx ls))), some (.d (.str (tx K))), some (.d (.list (rules.map ruD))), some (.d (.list (keys.map keD))), x6, x7, x8, some (.d (.str (tx l))), x10] m2
            (fun e2 m2 => ∃ (keys : List (List Nat)) (x6 x9 : Option Sl), rest.length + keys.length ≤ 2 ∧ KeysOk K keys ∧ n ≤ m2 + 41 + (2 - rest.length) * 10 ∧
          e2 = [some .p, some (.d (.int (most : Nat))), some (.d (.str (tx ls))), some (.d (.str (tx K))), some (.d (.list (rules.map ruD))), some (.d (.list (keys.map keD))), x6, x7, x8, x9, x10])
            Q (fun e m => MS (sRet (wTup (wCons (wVal 3) (wCons (w1 pTupA (wVar 4)) (wCons (w1 pTupA (wVar 5)) wNil))))) e m (fun x m => Q PyData.none m) Q noEnd noEnd)
            (fun e2 m2 => ∃ (keys : List (List Nat)) (x6 x9 : Option Sl), rest.length + keys.length ≤ 2 ∧ KeysOk K keys ∧ n ≤ m2 + 41 + (2 - rest.length) * 10 ∧
          e2 = [some .p, some (.d (.int (most : Nat))), some (.d (.str (tx ls))), some (.d (.str (tx K))), some (.d (.list (rules.map ruD))), some (.d (.list (keys.map keD))), x6, x7, x8, x9, x10]) := fun l m2 x6 sl ne hm2 => by
          (repeat walk_at "s")
          refine ⟨by show 1 ≤ sizeLine; decide, ?_⟩
          (repeat walk_at "s")
          refine ⟨_, in_keys l keys, ?_⟩
          refine ⟨_, rfl, ?_⟩
          refine ⟨_, mulT_tst _ (by simp), ?_⟩
          rw [Bool.true_xor]
          by_cases hin : l ∈ keys
          · rw [decide_eq_true hin]
            refine ⟨_, add_lst (by simp; omega), ?_⟩
            refine ⟨keys, _, _, by omega, okk, by omega, by rw [show (if (!true) = true then [PyData.str (tx l)] else []) = [] from rfl, List.append_nil]; rfl⟩
          · rw [decide_eq_false hin]
            refine ⟨_, add_lst (by simp; omega), ?_⟩
            refine ⟨keys ++ [l], x6, some (.d (.str (tx l))), by rw [List.length_append]; simp; omega, okk.add ⟨sl, ne⟩ hin (by omega), by omega, ?_⟩
            rw [List.map_append]
            rfl
        walk_at "s"
        walk_at "s"
        (repeat walk_at "s")
        refine subset_run (by rw [Ls_tx]; omega) (by rw [Ls_tx]; omega) fun l m2 sl hm2 => ?_
        rw [Ls_tx] at sl hm2
        refine ⟨_, tru_str (by rw [Ls_tx]; have := sl.length_le; omega), fun h => ?_, fun h => ?_⟩
        · rw [Ls_tx] at h
          refine put l m2 _ sl (fun e => by subst e; cases h) (by omega)
        · (repeat walk_at "s")
          refine ⟨_, rfl, ?_⟩
          refine ⟨_, ix_last hK.some (by omega), ?_⟩
          exact put [K.getLast hK.some] m2 _ (List.singleton_sublist.mpr (List.getLast_mem _)) (by simp) (by omega)
      · obtain ⟨keys, x6, x9, few, okk, hm, rfl⟩ := hI
        (repeat walk_at "s")
        refine ⟨_, rfl, ?_⟩
        (repeat walk_at "s")
        refine ⟨_, rfl, ?_⟩
        (repeat walk_at "s")
        exact ⟨by show 3 ≤ sizeLine; decide, q K rules keys m hK hLow hKm ok okk (by simp at hm; omega)⟩
    (repeat walk_at "s")
    refine take_run (by decide) (by decide) (by omega) fun r r0 r1 => ?_
    (repeat walk_at "s"); walk_at "e"; walk_at "r"
    refine ⟨fun h => ?_, fun h => ?_⟩
    · (repeat walk_at "s")
      refine m_lcF (fun _ => true) (fun x => match x with | .int k => ruD ([K.getD k.toNat 0], K.getD (k.toNat + 1) 0) | _ => .none) ?_
      (repeat walk_at "s")
      refine ⟨_, len_str (by rw [Ls_tx]; omega), ?_⟩
      rw [Ls_tx]
      (repeat walk_at "s")
      refine ⟨.int ((K.length - 1 : Nat) : Int), by
        show some (PyData.int ((K.length : Int) - 1)) = _
        rw [Int.natCast_sub (by omega)]
        rfl, ?_⟩
      refine ⟨_, rfl, by omega, by omega, by rw [Int.toNat_natCast, rng_len, sizeLine_eq]; omega, fun x hx => ?_, ?_⟩
      · rw [Int.toNat_natCast] at hx
        obtain ⟨k, hk, rfl⟩ := List.mem_map.mp hx
        have hk' := List.mem_range.mp hk
        refine ⟨_, rfl, fun m => ?_, fun _ m => ?_⟩
        · walk_at "s"; exact ⟨rfl, rfl⟩
        · rw [Int.zero_add]
          (repeat walk_at "s")
          refine ⟨_, ix_str (k := k) (by omega) (by omega), ?_⟩
          (repeat walk_at "s")
          refine ⟨.int ((k + 1 : Nat) : Int), by rw [Int.natCast_add]; rfl, ?_⟩
          refine ⟨_, ix_str (k := k + 1) (by omega) (by omega), ?_⟩
          (repeat walk_at "s")
          refine ⟨by show 2 ≤ sizeLine; decide, ?_, rfl⟩
          show PyData.tuple [sg K[k], sg K[k + 1]] = PyData.tuple [.str (tx [K.getD (Int.toNat (k : Int)) 0]), sg (K.getD (Int.toNat (k : Int) + 1) 0)]
          rw [Int.toNat_natCast]
          have e1 : K.getD k 0 = K[k] := by simp [List.getD, List.getElem?_eq_getElem (show k < K.length by omega)]
          have e2 : K.getD (k + 1) 0 = K[k + 1] := by simp [List.getD, List.getElem?_eq_getElem (show k + 1 < K.length by omega)]
          rw [e1, e2]
          rfl
      · have el : ((rngD 0 ((K.length - 1 : Nat) : Int).toNat).filter fun _ => true).map (fun x => match x with | .int k => ruD ([K.getD k.toNat 0], K.getD (k.toNat + 1) 0) | _ => PyData.none) = (chainR K).map ruD := by
          rw [List.filter_eq_self.mpr fun _ _ => rfl, Int.toNat_natCast]
          refine List.ext_getElem? fun i => ?_
          rw [List.getElem?_map, List.getElem?_map]
          unfold rngD
          rw [List.getElem?_map]
          by_cases hi : i < K.length - 1
          · rw [List.getElem?_range hi, chain_get (by omega)]
            simp [List.getD, List.getElem?_eq_getElem (show i < K.length by omega), List.getElem?_eq_getElem (show i + 1 < K.length by omega)]
          · rw [List.getElem?_eq_none (by rw [List.length_range]; omega), List.getElem?_eq_none (by rw [chain_len]; omega)]
            rfl
        rw [el]
        refine ⟨_, rfl, ?_⟩
        (repeat walk_at "s")
        refine ⟨_, ix_str (k := 0) (by omega) (by omega), ?_⟩
        (repeat walk_at "s")
        refine ⟨by show 2 ≤ sizeLine; decide, ?_⟩
        (repeat walk_at "s")
        refine ⟨by show 1 ≤ sizeLine; decide, ?_⟩
        (repeat walk_at "s")
        refine take_nat (k := 2) (by decide) (by decide) (by omega) fun t ht => ?_
        refine ⟨_, mulT_nat t (by simp; omega) (by omega), ?_⟩
        refine ⟨_, add_lst (by
          have hcl := chain_len K
          match t, ht with
          | 0, _ => simp; omega
          | 1, _ => simp; omega), ?_⟩
        have e2 : ((chainR K).map ruD).reverse ++ (List.replicate t [PyData.tuple [.str "", sg (K[0]'hKp)]]).flatten = ((chainR K).reverse ++ (List.replicate t [([], K.head hK.some)]).flatten).map ruD := by
          rw [List.map_append, List.map_reverse]
          have hh : K.head hK.some = K[0]'hKp := by rw [List.head_eq_getElem]
          have he : PyData.tuple [.str "", sg (K[0]'hKp)] = ruD ([], K.head hK.some) := by rw [hh]; rfl
          match t, ht with
          | 0, _ => rfl
          | 1, _ => rw [he]; rfl
        rw [e2]
        refine keysOf _ _ _ _ _ _ (chain_ok hK t (by omega)) ?_
        omega
    · walk_at "s"
      refine keysOf rules _ _ _ _ _ ok ?_
      omega
end
def keptL (K : List Nat) : Stp → List Nat
  | .col l => l
  | _ => K
def isG : Stp → Bool
  | .grp _ _ => true
  | _ => false
/-- its numbers are small -/
def StpSm : Stp → Prop
  | .whr _ v => v.natAbs ≤ 100000
  | .cut _ i => i ≤ 100000
  | _ => True
structure DStep (K : List Nat) (behind : Bool) (d : PyData) : Prop where
  ex : ∃ st, d = stpD st ∧ StpOk K st ∧ ColsOk (keptL K st) ∧ (keptL K st).Sublist K ∧ isG st = false ∧ StpSm st
  fit : Fit 300 1 d
theorem sub_cols {K l : List Nat} (hK : ColsOk K) (s : l.Sublist K) (ne : l ≠ []) : ColsOk l := ⟨hK.asc.sublist s, Nat.le_trans s.length_le hK.few, ne, fun c hc => hK.low c (s.subset hc)⟩
theorem fit_tx {l : List Nat} (h : l.length ≤ 5) (h2 : ∀ c ∈ l, c < 128) : Fit 100 0 (.str (tx l)) := Fit.str (by rw [Ls_tx]; omega) (by rw [Ls_tx]; exact h2)
theorem fit_word : ∀ w ∈ (["where", "sort", "stable", "first", "skip", "columns", "count", "sum", "heads", "limit", "", "a", "ba", "aa", "zz", "c"] : List Str), Fit 100 0 (.str w) := by
  intro w hw
  have : (Ls w).length ≤ 100 ∧ ∀ c ∈ Ls w, c < 128 := by
    revert w
    decide +kernel
  exact Fit.str this.1 this.2
theorem fit_pair {a b : PyData} {B C : Nat} (h : Fit B 0 a) (h2 : Fit C 0 b) : Fit (B + C + 2) 1 (.tuple [a, b]) := (Fit.tup (FitS.cons h (FitS.cons h2 FitS.nil))).le (by omega) (Nat.le_refl _)
theorem fit_three {a b c : PyData} {B C D : Nat} (h : Fit B 0 a) (h2 : Fit C 0 b) (h3 : Fit D 0 c) : Fit (B + C + D + 3) 1 (.tuple [a, b, c]) := (Fit.tup (FitS.cons h (FitS.cons h2 (FitS.cons h3 FitS.nil)))).le (by omega) (Nat.le_refl _)
theorem small_int {i : Int} (h : i.natAbs ≤ 100000) : Fit 0 0 (.int i) := Fit.int (Nat.lt_of_le_of_lt h (by decide))
section
variable {n : Nat} {Q : PyData → Nat → Prop} {K : List Nat}
theorem dstep_sort {w : Str} {l p : List Nat} (hw : w = Str.ofString "sort" ∨ w = Str.ofString "stable") (hK : ColsOk K) (s : l.Sublist K) (ne : l ≠ []) (h : p.Perm l) : DStep K false (.tuple [.str w, .str (tx p)]) := by
  have pl : p.length = l.length := h.length_eq
  have hl := s.length_le
  have h5 := hK.few
  have ok : (∀ c ∈ p, c ∈ K) ∧ p.Nodup := ⟨fun c hc => s.subset (h.mem_iff.mp hc), h.symm.nodup ((hK.asc.imp fun q => Nat.ne_of_lt q).sublist s)⟩
  refine ⟨?_, (fit_pair (fit_word w (by rcases hw with e | e <;> subst e <;> decide +kernel)) (fit_tx (by omega) fun c hc => hK.low c (s.subset (h.mem_iff.mp hc)))).le (by omega) (Nat.le_refl _)⟩
  rcases hw with rfl | rfl
  · exact ⟨.srt false p, rfl, ok, hK, List.Sublist.refl _, rfl, trivial⟩
  · exact ⟨.srt true p, rfl, ok, hK, List.Sublist.refl _, rfl, trivial⟩
theorem dstep_cut {w : Str} {i : Int} (hw : w = Str.ofString "first" ∨ w = Str.ofString "skip") (hK : ColsOk K) (h0 : 0 ≤ i) (h1 : i ≤ 20) : DStep K true (.tuple [.str w, .int i]) := by
  refine ⟨?_, (fit_pair (fit_word w (by rcases hw with e | e <;> subst e <;> decide +kernel)) (small_int (i := i) (by omega))).le (by omega) (Nat.le_refl _)⟩
  obtain ⟨j, rfl⟩ : ∃ j : Nat, i = (j : Int) := ⟨i.toNat, by omega⟩
  rcases hw with rfl | rfl
  · exact ⟨.cut true j, rfl, trivial, hK, List.Sublist.refl _, rfl, (by show j ≤ 100000; omega)⟩
  · exact ⟨.cut false j, rfl, trivial, hK, List.Sublist.refl _, rfl, (by show j ≤ 100000; omega)⟩
theorem dstep_cols {l : List Nat} (b : Bool) (hK : ColsOk K) (s : l.Sublist K) (ne : l ≠ []) : DStep K b (.tuple [.str "columns", .str (tx l)]) := by
  have hl := s.length_le
  have h5 := hK.few
  exact ⟨⟨.col l, rfl, s, sub_cols hK s ne, s, rfl, trivial⟩, (fit_pair (fit_word "columns" (by decide +kernel)) (fit_tx (by omega) fun c hc => hK.low c (s.subset hc))).le (by omega) (Nat.le_refl _)⟩
theorem dstep_where {c : Nat} {i : Int} (b : Bool) (hK : ColsOk K) (hc : c ∈ K) (hi : i.natAbs ≤ 100000) : DStep K b (.tuple [.str "where", sg c, .int i]) :=
  ⟨⟨.whr c i, rfl, hc, hK, List.Sublist.refl _, rfl, hi⟩, (fit_three (fit_word "where" (by decide +kernel)) (fit_tx (l := [c]) (by simp) fun d hd => by rw [List.mem_singleton] at hd; subst hd; exact hK.low _ hc) (small_int hi)).le (by omega) (Nat.le_refl _)⟩
theorem ix_shift (r : Nat) (h : r < 5) : ∃ i : Int, eIx (.list [.int 0, .int 2, .int 11, .int (-8), .int (-1000)]) (.int (r : Int)) = some (.int i) ∧ i.natAbs ≤ 1000 := by
  refine ⟨([0, 2, 11, -8, -1000] : List Int)[r]'h, ix_ints (ns := [0, 2, 11, -8, -1000]) h, ?_⟩
  match r, h with
  | 0, _ => exact (by decide : (0 : Int).natAbs ≤ 1000)
  | 1, _ => exact (by decide : (2 : Int).natAbs ≤ 1000)
  | 2, _ => exact (by decide : (11 : Int).natAbs ≤ 1000)
  | 3, _ => exact (by decide : (-8 : Int).natAbs ≤ 1000)
  | 4, _ => exact (by decide : (-1000 : Int).natAbs ≤ 1000)
theorem mod_3 (a : Nat) : eMod (.int (a : Int)) (.int 3) = some (.int ((a % 3 : Nat) : Int)) := by
  show (if decide ((0 : Int) < 3) = true then some (PyData.int ((a : Int) % 3)) else none) = _
  rw [if_pos (by decide)]
  rfl
theorem words_fs (r : Nat) (h : r < 3) : ∃ w : Str, ([.str "first", .str "first", .str "skip"] : List PyData)[r]'h = .str w ∧ (w = Str.ofString "first" ∨ w = Str.ofString "skip") := by
  match r, h with
  | 0, _ => exact ⟨_, rfl, .inl rfl⟩
  | 1, _ => exact ⟨_, rfl, .inl rfl⟩
  | 2, _ => exact ⟨_, rfl, .inr rfl⟩
theorem draw_step_run {b : Bool} {size : Nat} (hK : ColsOk K) (hs : 1 ≤ size) (hs2 : size ≤ 21) (hn : 50 ≤ n) (q : ∀ d m, DStep K b d → n ≤ m + 50 → Q d m) : MD w__law_draw_step [.p, .d (.str (tx K)), .d (.bool b), .d (.int (size : Nat))] n Q := by
  have h5 := hK.few
  have hKp : 0 < K.length := List.length_pos_iff.mpr hK.some
  refine md_def rfl rfl ?_
  unfold t__law_draw_step
  (repeat walk_at "s")
  refine take_nat (k := 9) (by decide) (by decide) (by omega) fun way hway => ?_
  -- the end: columns, where
  have fin : ∀ m, n ≤ m + 5 → MS (sSeq (sIf (wTt (wOp pEq2 (wVar 4) (wC (.int 8))))
      (sRet (wTup (wCons (wC (.str "columns")) (wCons (wOrE (wCall w__law_subset (wAName 0 (wAName 1 wANil))) (wVal 1)) wNil))))
      sNext)
      (sRet (wTup (wCons (wC (.str "where")) (wCons (wOp pIx (wVar 1) (wCall w__law_take (wAName 0 (wACons (w1 pLen (wVar 1)) wANil)))) (wCons (wOp pSub (wCall w__law_take (wAName 0 (wACons (wC (.int 3)) wANil))) (wOp pIx (fz (wLst (wCons (wC (.int 0)) (wCons (wC (.int 2)) (wCons (wC (.int 11)) (wCons (wNeg (wC (.int 8))) (wCons (wNeg (wC (.int 1000))) wNil))))))) (wCall w__law_take (wAName 0 (wACons (wC (.int 5)) wANil))))) wNil))))))
      [some .p, some (.d (.str (tx K))), some (.d (.bool b)), some (.d (.int (size : Nat))), some (.d (.int (way : Nat))), none] m (fun x m => Q PyData.none m) Q noEnd noEnd := fun m hm => by
    (repeat walk_at "s"); walk_at "e"; walk_at "r"
    refine ⟨fun h => ?_, fun h => ?_⟩
    · (repeat walk_at "s")
      refine subset_run (by rw [Ls_tx]; omega) (by rw [Ls_tx]; omega) fun l m2 sl hm2 => ?_
      rw [Ls_tx] at sl hm2
      have hl := sl.length_le
      refine ⟨_, tru_str (by rw [Ls_tx]; omega), fun h => ?_, fun h => ?_⟩
      · rw [Ls_tx] at h
        (repeat walk_at "s")
        exact ⟨by show 2 ≤ sizeLine; decide, q _ _ (dstep_cols b hK sl (fun e => by subst e; cases h)) (by omega)⟩
      · (repeat walk_at "s")
        exact ⟨by show 2 ≤ sizeLine; decide, q _ _ (dstep_cols b hK (List.Sublist.refl _) hK.some) (by omega)⟩
    · walk_at "s"
      (repeat walk_at "s")
      refine ⟨_, len_str (by rw [Ls_tx]; omega), ?_⟩
      rw [Ls_tx]
      (repeat walk_at "s")
      refine take_nat hKp (by omega) (by omega) fun r hr => ?_
      refine ⟨_, ix_str hr (by omega), ?_⟩
      (repeat walk_at "s")
      refine take_nat (k := 3) (by decide) (by decide) (by omega) fun r2 hr2 => ?_
      (repeat walk_at "s")
      refine ⟨_, rfl, ?_⟩
      (repeat walk_at "s")
      refine ⟨_, rfl, ?_⟩
      (repeat walk_at "s")
      refine ⟨by show 5 ≤ sizeLine; decide, ?_⟩
      (repeat walk_at "s")
      refine take_nat (k := 5) (by decide) (by decide) (by omega) fun r3 hr3 => ?_
      obtain ⟨i, ei, hi⟩ := ix_shift r3 hr3
      refine ⟨_, ei, ?_⟩
      refine ⟨_, rfl, ?_⟩
      (repeat walk_at "s")
      exact ⟨by show 3 ≤ sizeLine; decide, q _ _ (dstep_where b hK (List.getElem_mem hr) (by omega)) (by omega)⟩
  (repeat walk_at "s")
  refine ⟨_, rfl, ?_⟩
  walk_at "r"
  -- the cuts
  have cuts : ∀ m, n ≤ m + 3 → MS (sSeq (sIf (wAndT (wTt (wOp pLt (wVar 4) (wC (.int 6)))) (wTru (wVar 2)))
      (sRet (wTup (wCons (wOp pIx (fz (wLst (wCons (wC (.str "first")) (wCons (wC (.str "first")) (wCons (wC (.str "skip")) wNil))))) (wOp pMod (wVar 4) (wC (.int 3)))) (wCons (wCall w__law_take (wAName 0 (wACons (wOp pIx (fz (wLst (wCons (wVal 3) (wCons (wVal 3) (wCons (wVal 3) (wCons (wC (.int 21)) wNil)))))) (wCall w__law_take (wAName 0 (wACons (wC (.int 4)) wANil)))) wANil))) wNil))))
      sNext)
      (sSeq (sIf (wTt (wOp pEq2 (wVar 4) (wC (.int 8))))
      (sRet (wTup (wCons (wC (.str "columns")) (wCons (wOrE (wCall w__law_subset (wAName 0 (wAName 1 wANil))) (wVal 1)) wNil))))
      sNext)
      (sRet (wTup (wCons (wC (.str "where")) (wCons (wOp pIx (wVar 1) (wCall w__law_take (wAName 0 (wACons (w1 pLen (wVar 1)) wANil)))) (wCons (wOp pSub (wCall w__law_take (wAName 0 (wACons (wC (.int 3)) wANil))) (wOp pIx (fz (wLst (wCons (wC (.int 0)) (wCons (wC (.int 2)) (wCons (wC (.int 11)) (wCons (wNeg (wC (.int 8))) (wCons (wNeg (wC (.int 1000))) wNil))))))) (wCall w__law_take (wAName 0 (wACons (wC (.int 5)) wANil))))) wNil)))))))
      [some .p, some (.d (.str (tx K))), some (.d (.bool b)), some (.d (.int (size : Nat))), some (.d (.int (way : Nat))), none] m (fun x m => Q PyData.none m) Q noEnd noEnd := fun m hm => by
    walk_at "s"
    walk_at "s"
    (repeat walk_at "s")
    refine ⟨_, rfl, ?_⟩
    walk_at "r"
    refine ⟨fun h => ?_, fun h => ?_⟩
    · (repeat walk_at "s"); walk_at "r"
      refine ⟨fun hb => ?_, fun hb => ?_⟩
      · subst hb
        (repeat walk_at "s")
        refine ⟨by show 3 ≤ sizeLine; decide, ?_⟩
        (repeat walk_at "s")
        refine ⟨_, mod_3 way, ?_⟩
        obtain ⟨w, ew, hw⟩ := words_fs (way % 3) (Nat.mod_lt _ (by decide))
        have e3 := ix_nat (xs := ([.str "first", .str "first", .str "skip"] : List PyData)) (k := way % 3) (show way % 3 < 3 from Nat.mod_lt _ (by decide))
        rw [ew] at e3
        refine ⟨_, e3, ?_⟩
        (repeat walk_at "s")
        refine ⟨by show 4 ≤ sizeLine; decide, ?_⟩
        (repeat walk_at "s")
        refine take_nat (k := 4) (by decide) (by decide) (by omega) fun r hr => ?_
        refine ⟨_, ix_ints (ns := [(size : Int), (size : Int), (size : Int), 21]) hr, ?_⟩
        have hz : ∃ z : Nat, ([(size : Int), (size : Int), (size : Int), 21] : List Int)[r]'hr = (z : Int) ∧ 1 ≤ z ∧ z ≤ 21 := by
          match r, hr with
          | 0, _ => exact ⟨size, rfl, hs, hs2⟩
          | 1, _ => exact ⟨size, rfl, hs, hs2⟩
          | 2, _ => exact ⟨size, rfl, hs, hs2⟩
          | 3, _ => exact ⟨21, rfl, by omega, by omega⟩
        obtain ⟨z, ez, z1, z2⟩ := hz
        rw [ez]
        (repeat walk_at "s")
        refine take_nat (k := z) (by omega) (by omega) (by omega) fun r2 hr2 => ?_
        (repeat walk_at "s")
        exact ⟨by show 2 ≤ sizeLine; decide, q _ _ (dstep_cut hw hK (by omega) (by omega)) (by omega)⟩
      · walk_at "s"
        exact fin m (by omega)
    · refine ⟨fun h2 => Bool.noConfusion h2, fun _ => ?_⟩
      walk_at "s"
      exact fin m (by omega)
  refine ⟨fun h => ?_, fun h => ?_⟩
  · have hw4 : way < 4 := by have := of_decide_eq_true h; omega
    (repeat walk_at "s"); walk_at "r"
    refine ⟨fun hb => ?_, fun hb => ?_⟩
    · have hb0 : b = false := by cases b with | false => rfl | true => cases hb
      subst hb0
      (repeat walk_at "s")
      refine subset_run (by rw [Ls_tx]; omega) (by rw [Ls_tx]; omega) fun l m2 sl hm2 => ?_
      rw [Ls_tx] at sl hm2
      have hl := sl.length_le
      have go : ∀ (l : List Nat) (m2 : Nat), l.Sublist K → l ≠ [] → n ≤ m2 + 10 → MD w__law_mixed [.p, .d (.str (tx l))] m2 fun d m => MS (sRet (wTup (wCons (wOp pIx (fz (wLst (wCons (wC (.str "sort")) (wCons (wC (.str "sort")) (wCons (wC (.str "sort")) (wCons (wC (.str "stable")) wNil)))))) (wVar 4)) (wCons (wVal 5) wNil))))
          [some .p, some (.d (.str (tx K))), some (.d (.bool false)), some (.d (.int (size : Nat))), some (.d (.int (way : Nat))), some (.d d)] m (fun e m => noEnd e m) Q noEnd noEnd := fun l m2 sl ne hm2 => by
        have hl := sl.length_le
        refine mixed_run (by rw [Ls_tx]; omega) (by rw [Ls_tx]; omega) fun p m3 pp hm3 => ?_
        rw [Ls_tx] at pp hm3
        (repeat walk_at "s")
        refine ⟨by show 4 ≤ sizeLine; decide, ?_⟩
        (repeat walk_at "s")
        have hw : ∃ w : Str, ([.str "sort", .str "sort", .str "sort", .str "stable"] : List PyData)[way]'hw4 = .str w ∧ (w = Str.ofString "sort" ∨ w = Str.ofString "stable") := by
          match way, hw4 with
          | 0, _ => exact ⟨_, rfl, .inl rfl⟩
          | 1, _ => exact ⟨_, rfl, .inl rfl⟩
          | 2, _ => exact ⟨_, rfl, .inl rfl⟩
          | 3, _ => exact ⟨_, rfl, .inr rfl⟩
        obtain ⟨w, ew, hw⟩ := hw
        refine ⟨_, ix_nat hw4, ?_⟩
        rw [ew]
        (repeat walk_at "s")
        exact ⟨by show 2 ≤ sizeLine; decide, q _ _ (dstep_sort hw hK sl ne pp) (by omega)⟩
      refine ⟨_, tru_str (by rw [Ls_tx]; omega), fun h => ?_, fun h => ?_⟩
      · rw [Ls_tx] at h
        (repeat walk_at "s")
        exact (go l m2 sl (fun e => by subst e; cases h) (by omega)).imp fun d m hd => hd.mid (fun _ _ h => h.elim) fun _ _ h => h
      · (repeat walk_at "s")
        refine ⟨_, rfl, ?_⟩
        refine ⟨_, sl_to (l := K) (k := 1) (by omega) (by omega), ?_⟩
        (repeat walk_at "s")
        have h1 : (K.take 1) ≠ [] := fun e => by
          rcases List.take_eq_nil_iff.mp e with z | z
          · cases z
          · exact hK.some z
        exact (go (K.take 1) m2 (List.take_sublist _ _) h1 (by omega)).imp fun d m hd => hd.mid (fun _ _ h => h.elim) fun _ _ h => h
    · walk_at "s"
      exact cuts _ (by omega)
  · refine ⟨fun h2 => Bool.noConfusion h2, fun _ => ?_⟩
    walk_at "s"
    exact cuts _ (by omega)
end
/-- how a report ends -/
inductive Fin where
  | non
  | cnt (g : List Nat)
  | sum (g : List Nat) (c : Nat)
  | hds (g : List Nat)
def finS : Fin → List Stp
  | .non => []
  | .cnt g => [.grp "count" [.str (tx g)]]
  | .sum g c => [.grp "sum" [.str (tx g), sg c]]
  | .hds g => [.grp "heads" [.str (tx g)]]
def FinOk (l : List Nat) : Fin → Prop
  | .non => True
  | .cnt g => g.Sublist l
  | .sum g c => g.Sublist l ∧ c ∈ l
  | .hds g => g.Sublist l
def keptR (K : List Nat) (sts : List Stp) : List Nat := sts.foldl keptL K
structure DRep (K : List Nat) (most : Nat) (xs : List PyData) : Prop where
  ex : ∃ (sts : List Stp) (f : Fin), xs = (sts ++ finS f).map stpD ∧ sts.length ≤ most ∧ (∀ st ∈ sts, StpOk K st ∧ StpSm st) ∧ (∀ st ∈ sts, isG st = false) ∧ FinOk (keptR K sts) f ∧ ColsOk (keptR K sts) ∧ (keptR K sts).Sublist K ∧ FitS (500 * (most + 1)) 1 xs
theorem kept_snoc {K : List Nat} {sts : List Stp} {st : Stp} : keptR K (sts ++ [st]) = keptL (keptR K sts) st := by
  unfold keptR
  rw [List.foldl_append]
  rfl
theorem _root_.Pu.StpOk.mono {l K : List Nat} (s : l.Sublist K) : ∀ {st : Stp}, StpOk l st → StpOk K st
  | .whr _ _, h => s.subset h
  | .srt _ _, h => ⟨fun c hc => s.subset (h.1 c hc), h.2⟩
  | .cut _ _, _ => trivial
  | .col _, h => h.trans s
  | .grp _ _, h => h
section
variable {n : Nat} {Q : PyData → Nat → Prop} {K : List Nat} {sr : List PyData}
theorem kept_expr {env : En} {i j : Nat} {st : Stp} (so : StpOk K st) (ng : isG st = false) (hi : vVar i env = some (stpD st)) (hj : vVal j env = some (.str (tx K))) (q : Q (.str (tx (keptL K st))) n) :
    ME (wIfE (wTt (wOp pEq2 (wOp pIx (wVar i) (wC (.int 0))) (wC (.str "columns")))) (wOp pIx (wVar i) (wC (.int 1))) (wVal j)) env n Q := by
  walk_at "s"; walk_at "s"; walk_at "s"; walk_at "s"
  refine m_var hi ?_
  (repeat walk_at "s")
  cases st with
  | col l =>
    walk_at "e"
    (repeat walk_at "s"); walk_at "e"
    walk_at "r"
    walk_at "t"
    walk_at "s"
    refine m_var hi ?_
    (repeat walk_at "s")
    exact ⟨_, ix_t1 _ _ _, q⟩
  | srt b p =>
    cases b <;> (walk_at "e"; (repeat walk_at "s"); walk_at "e"; walk_at "r"; walk_at "f"; exact m_val hj q)
  | cut b p =>
    cases b <;> (walk_at "e"; (repeat walk_at "s"); walk_at "e"; walk_at "r"; walk_at "f"; exact m_val hj q)
  | whr c v => walk_at "e"; (repeat walk_at "s"); walk_at "e"; walk_at "r"; walk_at "f"; exact m_val hj q
  | grp w r => cases ng
theorem grp_fit {w : Str} {l g : List Nat} (hw : w = Str.ofString "count" ∨ w = Str.ofString "heads") (hl : ColsOk l) (s : g.Sublist l) : Fit 300 1 (.tuple [.str w, .str (tx g)]) := by
  have hgl := s.length_le
  have h5 := hl.few
  exact (fit_pair (fit_word w (by rcases hw with e | e <;> subst e <;> decide +kernel)) (fit_tx (by omega) fun c hc => hl.low c (s.subset hc))).le (by omega) (Nat.le_refl _)
theorem sum_fit {l g : List Nat} {c : Nat} (hl : ColsOk l) (s : g.Sublist l) (hc : c ∈ l) : Fit 400 1 (.tuple [.str "sum", .str (tx g), sg c]) := by
  have hgl := s.length_le
  have h5 := hl.few
  exact (fit_three (fit_word "sum" (by decide +kernel)) (fit_tx (by omega) fun c hc => hl.low c (s.subset hc)) (fit_tx (l := [c]) (by simp) fun d hd => by rw [List.mem_singleton] at hd; subst hd; exact hl.low _ hc)).le (by omega) (Nat.le_refl _)
theorem draw_report_run {most size : Nat} (hK : ColsOk K) (hm : most ≤ 7) (hs : 1 ≤ size) (hs2 : size ≤ 21) (hn : 600 ≤ n) (q : ∀ xs m, DRep K most xs → n ≤ m + 600 → Q (.tuple xs) m) : MD w__law_draw_report [.p, .d (.tuple (.str (tx K) :: sr)), .d (.int (most : Nat)), .d (.int (size : Nat))] n Q := by
  have h5 := hK.few
  refine md_def rfl rfl ?_
  unfold t__law_draw_report
  (repeat walk_at "s"); walk_at "e"
  (repeat walk_at "s")
  refine ⟨Nat.zero_le _, ?_⟩
  (repeat walk_at "s")
  refine ⟨.int ((most + 1 : Nat) : Int), rfl, ?_⟩
  (repeat walk_at "s")
  refine take_nat (k := most + 1) (by omega) (by omega) (by omega) fun early hearly => ?_
  walk_at "s"
  refine n_for ?_
  (repeat walk_at "s")
  refine ⟨.int ((most + 1 : Nat) : Int), rfl, ?_⟩
  (repeat walk_at "s")
  refine take_nat (k := most + 1) (by omega) (by omega) (by omega) fun j hj => ?_
  refine ⟨_, rfl, by omega, by omega, fun rest e m => ∃ (k : Nat) (sts : List Stp) (l : List Nat) (x7 x8 : Option Sl), rest = (rngD 0 j).drop k ∧ sts.length = k ∧ k ≤ j ∧ keptR K sts = l ∧ (∀ st ∈ sts, isG st = false) ∧ ColsOk l ∧ l.Sublist K ∧ (∀ st ∈ sts, StpOk K st ∧ StpSm st) ∧ FitS (301 * k) 1 (sts.map stpD) ∧ n ≤ m + 2 + k * 50 ∧
      e = [some .p, some (.d (.tuple (.str (tx K) :: sr))), some (.d (.int (most : Nat))), some (.d (.int (size : Nat))), some (.d (.str (tx l))), some (.l (sts.map stpD)), some (.d (.int (early : Nat))), x7, x8, none, none, none, none],
    ⟨0, [], K, none, none, by rw [Int.toNat_natCast]; rfl, rfl, by omega, rfl, (fun _ z => (nomatch z)), hK, List.Sublist.refl _, fun _ z => (nomatch z), FitS.nil.le (by omega) (by omega), by omega, rfl⟩, fun x rest e m hI => ?_, fun e m hI => ?_⟩
  · obtain ⟨k, sts, l, x7, x8, er, lx, kj, ekp, hng, hl, lK, hst, hf, hmm, rfl⟩ := hI
    obtain ⟨ex, er2, hkj⟩ := rng_at j er
    rw [Int.zero_add] at ex
    subst ex
    refine ⟨_, rfl, ?_⟩
    (repeat walk_at "s")
    refine ⟨_, rfl, ?_⟩
    (repeat walk_at "s")
    refine draw_step_run (b := decide ((early : Int) ≤ (k : Int))) hl hs hs2 (by omega) fun d m2 hd hm2 => ?_
    obtain ⟨st, ed, so, hk, ks, ng, sm⟩ := hd.ex
    walk_at "s"; walk_at "s"
    refine kept_expr (K := l) (st := st) so ng (by subst ed; rfl) rfl ?_
    refine n_app rfl ?_
    walk_at "s"
    refine ⟨by rw [List.length_map]; have z := sizeLine_eq; omega, k + 1, sts ++ [st], keptL l st, some (.d (.int (k : Nat))), some (.d d), er2, by rw [List.length_append]; simp; omega, hkj, by rw [kept_snoc, ekp], fun s hs => (List.mem_append.mp hs).elim (hng s) fun z => by rw [List.mem_singleton.mp z]; exact ng, hk, ks.trans lK, fun s hs => ?_, ?_, by omega, by rw [List.map_append, ed]; rfl⟩
    · rcases List.mem_append.mp hs with z | z
      · exact hst s z
      · rw [List.mem_singleton.mp z]; exact ⟨so.mono lK, sm⟩
    · rw [List.map_append]
      exact (hf.append (FitS.cons (by rw [← ed]; exact hd.fit) (FitS.nil.le (Nat.le_refl 0) (Nat.zero_le 1)))).le (by omega) (Nat.le_refl _)
  · obtain ⟨k, sts, l, x7, x8, er, lx, kj, ekp, hng, hl, lK, hst, hf, hmm, rfl⟩ := hI
    have hl5 := hl.few
    have hlp : 0 < l.length := List.length_pos_iff.mpr hl.some
    (repeat walk_at "s")
    refine take_nat (k := 8) (by decide) (by decide) (by omega) fun way hway => ?_
    -- behind the group
    have go : ∀ (g : List Nat) (m : Nat), g.Sublist l → g ≠ [] → n ≤ m + 590 → MS (sSeq (sSet (fz (fLc (wSeq (wVar 4)) (.nm 12) (wTt (wOp (pIn2 true) (wVar 12) (wVar 10))) (wVal 12) [12])) 11)
        (sSeq (sIf (wTt (wOp pEq2 (wVar 9) (wC (.int 0))))
        (sApp 5 (wTup (wCons (wC (.str "count")) (wCons (wVal 10) wNil))))
        (sIf (wAndT (wTt (wOp pEq2 (wVar 9) (wC (.int 1)))) (wTt (wOp pNe2 (wVar 11) (fz (wLst wNil)))))
        (sApp 5 (wTup (wCons (wC (.str "sum")) (wCons (wVal 10) (wCons (wOp pIx (wVar 11) (wCall w__law_take (wAName 0 (wACons (w1 pLen (wVar 11)) wANil)))) wNil)))))
        (sIf (wTt (wOp pEq2 (wVar 9) (wC (.int 2))))
        (sApp 5 (wTup (wCons (wC (.str "heads")) (wCons (wVal 10) wNil))))
        sNext)))
        (sRet (w1 pTupA (wVar 5)))))
        [some .p, some (.d (.tuple (.str (tx K) :: sr))), some (.d (.int (most : Nat))), some (.d (.int (size : Nat))), some (.d (.str (tx l))), some (.l (sts.map stpD)), some (.d (.int (early : Nat))), x7, x8, some (.d (.int (way : Nat))), some (.d (.str (tx g))), none, none] m (fun x m => Q PyData.none m) Q noEnd noEnd := fun g m sg1 gne hmg => by
      have hgl := sg1.length_le
      walk_at "s"; walk_at "s"; walk_at "s"
      refine m_lcF (fun x => match x with | .str w => !oneIn g w | _ => false) id ?_
      walk_at "s"; walk_at "s"
      refine ⟨_, seq_str (tx l), by rw [List.length_map, Ls_tx, sizeLine_eq]; omega, fun x hx => ?_, ?_⟩
      · obtain ⟨c, hc, e⟩ := List.mem_map.mp hx
        subst e
        refine ⟨_, rfl, fun m => ?_, fun _ m => ?_⟩
        · (repeat walk_at "s")
          refine ⟨_, in_sg _ _, ?_⟩
          walk_at "r"
          exact ⟨by rw [Bool.true_xor, Ls_tx]; rfl, rfl⟩
        · walk_at "s"; exact ⟨rfl, rfl⟩
      have e : ((List.map sg (Ls (tx l))).filter fun x => match x with | .str w => !oneIn g w | _ => false).map id = (l.filter fun c => !decide (c ∈ g)).map sg := by
        rw [List.map_id, List.filter_map, Ls_tx]
        rfl
      rw [e]
      generalize hrest : (l.filter fun c => !decide (c ∈ g)) = rs
      have hrs : ∀ c ∈ rs, c ∈ l ∧ c ∉ g := fun c hc => by
        rw [← hrest] at hc
        have := List.mem_filter.mp hc
        exact ⟨this.1, by simpa using this.2⟩
      have hrl : rs.length ≤ 5 := by rw [← hrest]; exact Nat.le_trans (List.length_filter_le _ _) hl5
      -- the end with a step more, or none
      have fin : ∀ (ys : List PyData) (x11 x12 : Option Sl) (m : Nat), DRep K most ys → n ≤ m + 595 → MS (sRet (w1 pTupA (wVar 5)))
          [some .p, some (.d (.tuple (.str (tx K) :: sr))), some (.d (.int (most : Nat))), some (.d (.int (size : Nat))), some (.d (.str (tx l))), some (.l ys), some (.d (.int (early : Nat))), x7, x8, some (.d (.int (way : Nat))), some (.d (.str (tx g))), x11, x12] m (fun x m => Q PyData.none m) Q noEnd noEnd := fun ys x11 x12 m hy hm => by
        (repeat walk_at "s")
        exact ⟨_, rfl, q ys m hy (by omega)⟩
      have drep : ∀ (f : Fin) (d : PyData), (finS f).map stpD = [d] → FinOk l f → Fit 400 1 d → DRep K most (sts.map stpD ++ [d]) := fun f d ed fo h3 =>
        ⟨sts, f, by rw [List.map_append, ed], by omega, hst, hng, by rw [ekp]; exact fo, by rw [ekp]; exact hl, by rw [ekp]; exact lK, FitS.le (C := 500 * (most + 1)) (hf.append (FitS.cons h3 (FitS.nil.le (Nat.le_refl 0) (Nat.zero_le 1)))) (by omega) (Nat.le_refl _)⟩
      have lx1 : (sts.map stpD).length < sizeLine := by rw [List.length_map]; have z := sizeLine_eq; omega
      walk_at "s"
      walk_at "s"
      (repeat walk_at "s"); walk_at "e"; walk_at "r"
      refine ⟨fun h => ?_, fun h => ?_⟩
      · refine n_app rfl ?_
        (repeat walk_at "s")
        have a3 := grp_fit (w := Str.ofString "count") (.inl rfl) hl sg1
        exact ⟨by show 2 ≤ sizeLine; decide, lx1, fin _ _ _ _ (drep (.cnt g) _ rfl sg1 (a3.le (by omega) (Nat.le_refl _))) (by omega)⟩
      · (repeat walk_at "s"); walk_at "e"; walk_at "r"
        have other : MS (sIf (wTt (wOp pEq2 (wVar 9) (wC (.int 2)))) (sApp 5 (wTup (wCons (wC (.str "heads")) (wCons (wVal 10) wNil)))) sNext)
            [some .p, some (.d (.tuple (.str (tx K) :: sr))), some (.d (.int (most : Nat))), some (.d (.int (size : Nat))), some (.d (.str (tx l))), some (.l (sts.map stpD)), some (.d (.int (early : Nat))), x7, x8, some (.d (.int (way : Nat))), some (.d (.str (tx g))), some (.d (.list (rs.map sg))), none] m
            (fun e m => MS (sRet (w1 pTupA (wVar 5))) e m (fun x m => Q PyData.none m) Q noEnd noEnd) Q noEnd noEnd := by
          (repeat walk_at "s"); walk_at "e"; walk_at "r"
          refine ⟨fun h => ?_, fun h => ?_⟩
          · refine n_app rfl ?_
            (repeat walk_at "s")
            have a3 := grp_fit (w := Str.ofString "heads") (.inr rfl) hl sg1
            exact ⟨by show 2 ≤ sizeLine; decide, lx1, fin _ _ _ _ (drep (.hds g) _ rfl sg1 (a3.le (by omega) (Nat.le_refl _))) (by omega)⟩
          · walk_at "s"
            exact fin _ _ _ _ ⟨sts, .non, by rw [show finS .non = [] from rfl, List.append_nil], by omega, hst, hng, trivial, by rw [ekp]; exact hl, by rw [ekp]; exact lK, hf.le (by omega) (Nat.le_refl _)⟩ (by omega)
        refine ⟨fun h1 => ?_, fun h1 => ⟨fun h => Bool.noConfusion h, fun _ => other⟩⟩
        (repeat walk_at "s")
        refine ⟨Nat.zero_le _, _, ne2_nilL (fun c hc => by have := hl.low c (hrs c hc).1; omega), ?_⟩
        walk_at "r"
        refine ⟨fun h2 => ?_, fun h2 => other⟩
        have rp : 0 < rs.length := by
          cases rs with
          | nil => cases h2
          | cons c r => exact Nat.succ_pos _
        refine n_app rfl ?_
        (repeat walk_at "s"); walk_at "r"
        rw [List.length_map]
        (repeat walk_at "s")
        refine take_nat rp (by omega) (by omega) fun r hr => ?_
        refine ⟨_, ix_nat (xs := rs.map sg) (k := r) (by rw [List.length_map]; exact hr), ?_⟩
        rw [List.getElem_map]
        (repeat walk_at "s")
        obtain ⟨b1, b2⟩ := hrs _ (List.getElem_mem hr)
        have a3 := sum_fit hl sg1 b1
        exact ⟨by show 3 ≤ sizeLine; decide, lx1, fin _ _ _ _ (drep (.sum g _) _ rfl ⟨sg1, b1⟩ a3) (by omega)⟩
    walk_at "s"
    walk_at "s"
    (repeat walk_at "s")
    refine subset_run (by rw [Ls_tx]; omega) (by rw [Ls_tx]; omega) fun g m2 sl hm2 => ?_
    rw [Ls_tx] at sl hm2
    refine ⟨_, tru_str (by rw [Ls_tx]; have := sl.length_le; omega), fun h => ?_, fun h => ?_⟩
    · rw [Ls_tx] at h
      exact go g m2 sl (fun e => by subst e; cases h) (by omega)
    · (repeat walk_at "s")
      refine ⟨_, rfl, ?_⟩
      refine ⟨_, ix_last hl.some (by omega), ?_⟩
      exact go [l.getLast hl.some] m2 (List.singleton_sublist.mpr (List.getLast_mem _)) (by simp) (by omega)
end
theorem any_map {α : Type} (f : α → Bool) (xs : List α) : eAny (.list (xs.map fun x => .bool (f x))) = some (.bool (xs.any f)) := by
  show (boolsOf (xs.map fun x => PyData.bool (f x))).map _ = _
  rw [bools_map]
  simp
section
variable {n : Nat} {Q : PyData → Nat → Prop} {K f part X : List Nat} {rules : List Rule} {keys : List (List Nat)}
theorem contains_run (hl : part.length ≤ 1000) (q : Q (.bool (inB part f)) n) : MD w_contains [.d (.str (tx f)), .d (.str (tx part))] n Q := by
  refine md_def rfl rfl ?_
  unfold t_contains
  walk_at "s"; walk_at "s"; walk_at "s"
  refine m_lcM part sg (fun c => .bool (decide (c ∈ f))) ?_
  (repeat walk_at "s")
  refine ⟨_, seq_str _, by rw [Ls_tx], by rw [sizeLine_eq]; omega, fun c hc => ⟨_, rfl, fun m => ?_⟩, _, all_map _ part, q⟩
  (repeat walk_at "s")
  refine ⟨_, in_sg c (tx f), ?_, rfl⟩
  rw [Ls_tx]
  simp
theorem has_key_run (hY : KeysOk K keys) (hK : ColsOk K) (q : Q (.bool (keys.any fun k => inB k f)) n) : MD w__has_key [.d (.str (tx f)), .d (.tuple (keys.map keD))] n Q := by
  have hK5 := hK.few
  refine md_def rfl rfl ?_
  unfold t__has_key
  walk_at "s"; walk_at "s"; walk_at "s"
  refine m_lcM keys keD (fun k => .bool (inB k f)) ?_
  (repeat walk_at "s")
  refine ⟨_, rfl, rfl, by rw [sizeLine_eq]; have := hY.few; omega, fun k hk => ⟨_, rfl, fun m => ?_⟩, _, any_map _ keys, q⟩
  (repeat walk_at "s")
  exact contains_run (Nat.le_trans (hY.one k hk).1.length_le (by omega)) ⟨rfl, rfl⟩
theorem common_run (hl : K.length ≤ 1000) (q : Q (.str (tx (K.filter fun c => decide (c ∈ f)))) n) : MD w_common [.d (.str (tx K)), .d (.str (tx f))] n Q := by
  refine md_def rfl rfl ?_
  unfold t_common
  (repeat walk_at "s")
  refine ⟨_, rfl, ?_⟩
  (repeat walk_at "s")
  refine m_lcK K sg sg (fun c => decide (c ∈ f)) ?_
  (repeat walk_at "s")
  refine ⟨_, seq_str _, by rw [Ls_tx], by rw [sizeLine_eq]; omega, fun c hc => ⟨_, rfl, fun m => ?_, fun m => ?_⟩, ?_⟩
  · (repeat walk_at "s")
    refine ⟨_, in_sg c (tx f), _, rfl, ?_, rfl⟩
    rw [Ls_tx]
    simp
  · (repeat walk_at "s")
    exact ⟨rfl, rfl⟩
  · exact ⟨_, join_sg (Nat.le_trans (List.length_filter_le _ _) hl), q⟩
theorem round_run (hK : ColsOk K) (hR : RulesOk K rules) (hY : KeysOk K keys) (hf : f.length ≤ 5) (q : Q (.str (tx (rnd K rules keys f))) n) : MD w__closure_round [.d (schD K rules keys), .d (.str (tx f))] n Q := by
  have hK5 := hK.few
  have hR6 := hR.few
  refine md_def rfl rfl ?_
  unfold t__closure_round
  (repeat walk_at "s")
  refine ⟨_, rfl, ?_⟩
  (repeat walk_at "s")
  refine has_key_run hY hK ?_
  walk_at "r"
  refine ⟨fun h => ?_, fun h => ?_⟩
  · (repeat walk_at "s")
    unfold rnd at q
    rw [if_pos h] at q
    exact q
  · unfold rnd at q
    rw [if_neg (by rw [h]; exact Bool.false_ne_true)] at q
    walk_at "s"; walk_at "s"; walk_at "s"; walk_at "s"
    refine m_lcK rules ruD (fun p => sg p.2) (fun p => inB p.1 f) ?_
    (repeat walk_at "s")
    refine ⟨_, rfl, rfl, by rw [sizeLine_eq]; omega, fun p hp => ⟨_, rfl, fun m => ?_, fun m => ?_⟩, ?_⟩
    · (repeat walk_at "s")
      refine contains_run (Nat.le_trans (hR.one p hp).1.length_le (by omega)) ?_
      exact ⟨_, rfl, rfl, rfl⟩
    · (repeat walk_at "s")
      exact ⟨rfl, rfl⟩
    · have e : (rules.filter fun p => inB p.1 f).map (fun p => sg p.2) = ((rules.filter fun p => inB p.1 f).map (·.2)).map sg := by rw [List.map_map]; rfl
      have hl : ((rules.filter fun p => inB p.1 f).map (·.2)).length ≤ 6 := by rw [List.length_map]; exact Nat.le_trans (List.length_filter_le _ _) hR6
      rw [e]
      (repeat walk_at "s")
      refine ⟨_, rfl, ?_⟩
      (repeat walk_at "s")
      refine ⟨_, join_sg (by omega), ?_⟩
      refine ⟨_, add_str (by rw [Ls_tx, Ls_tx]; omega), ?_⟩
      rw [Ls_tx, Ls_tx]
      (repeat walk_at "s")
      exact common_run (by omega) q
theorem closure_run (hK : ColsOk K) (hR : RulesOk K rules) (hY : KeysOk K keys) (hX : X.Sublist K) (q : Q (.str (tx (clos K rules keys X))) n) : MD w_closure [.d (schD K rules keys), .d (.str (tx X))] n Q := by
  have hK5 := hK.few
  refine md_def rfl rfl ?_
  unfold t_closure
  walk_at "s"
  (repeat walk_at "s")
  refine n_for ?_
  (repeat walk_at "s"); walk_at "e"
  refine ⟨_, seq_str _, fun rest e m => m = n ∧ ∃ (f : List Nat) (x3 : Option Sl), f.Sublist K ∧ rnds K rules keys rest.length f = clos K rules keys X ∧ e = [some (.d (schD K rules keys)), some (.d (.str (tx X))), some (.d (.str (tx f))), x3],
    ⟨rfl, X, none, hX, by rw [List.length_map, Ls_tx]; rfl, rfl⟩, fun x rest e m hI => ?_, fun e m hI => ?_⟩
  · obtain ⟨rfl, f, x3, sf, ef, rfl⟩ := hI
    refine ⟨_, rfl, ?_⟩
    (repeat walk_at "s")
    refine round_run hK hR hY (Nat.le_trans sf.length_le hK5) ?_
    exact ⟨rfl, _, _, rnd_sub f, ef, rfl⟩
  · obtain ⟨rfl, f, x3, sf, ef, rfl⟩ := hI
    (repeat walk_at "s")
    have e : f = clos K rules keys X := ef
    rw [e]
    exact q
end
section
variable {n : Nat} {Q : PyData → Nat → Prop} {K X : List Nat} {rules : List Rule} {keys : List (List Nat)} {cs : CsT} {o k : List Nat} {c : Bool} {m : Option Int}
theorem is_unique_run (hK : ColsOk K) (hR : RulesOk K rules) (hY : KeysOk K keys) (hX : X.Sublist K) (q : Q (.bool (keys.any fun k => inB k (clos K rules keys X))) n) : MD w_is_unique [.d (schD K rules keys), .d (.str (tx X))] n Q := by
  refine md_def rfl rfl ?_
  unfold t_is_unique
  (repeat walk_at "s")
  refine closure_run hK hR hY hX ?_
  (repeat walk_at "s")
  refine ⟨_, ix_t2 _ _ _ _, ?_⟩
  (repeat walk_at "s")
  exact has_key_run hY hK q
theorem common_runL {f : List Nat} (hl : K.length ≤ 1000) (q : Q (.str (tx (K.filter fun c => decide (c ∈ f)))) n) : MD w_common [.d (.str (tx K)), .d (.list (f.map sg))] n Q := by
  refine md_def rfl rfl ?_
  unfold t_common
  (repeat walk_at "s")
  refine ⟨_, rfl, ?_⟩
  (repeat walk_at "s")
  refine m_lcK K sg sg (fun c => decide (c ∈ f)) ?_
  (repeat walk_at "s")
  refine ⟨_, seq_str _, by rw [Ls_tx], by rw [sizeLine_eq]; omega, fun c hc => ⟨_, rfl, fun m => ?_, fun m => ?_⟩, ?_⟩
  · (repeat walk_at "s")
    refine ⟨_, in_chs f _, _, rfl, ?_, rfl⟩
    rw [oneIn_sg]
    simp
  · (repeat walk_at "s")
    exact ⟨rfl, rfl⟩
  · exact ⟨_, join_sg (Nat.le_trans (List.length_filter_le _ _) hl), q⟩
theorem after_where_run {col : Nat} {v : Int} (hK : ColsOk K) (hR : RulesOk K rules) (hY : KeysOk K keys) (h : KnP K cs o k m) (hc : col ∈ K) (q : Q (knD (afW K rules keys cs o k c m col v)) n) :
    MD w__after_where [.d (schD K rules keys), .d (knD (.kn cs o k c m)), .d (sg col), .d (.int v)] n Q := by
  have hK5 := hK.few
  have few := h.cs.few hK
  refine md_def rfl rfl ?_
  unfold t__after_where
  walk_at "s"
  (repeat walk_at "s")
  walk_at "r"
  (repeat walk_at "s")
  refine ⟨csS cs, ⟨by rw [csS_pair], csS_nodup (asc_nodup h.cs.asc), by unfold csS; rw [List.length_map]; omega⟩, ?_⟩
  (repeat walk_at "s")
  refine ⟨_, rfl, ?_⟩
  walk_at "r"
  unfold afW at q
  cases hf : fixC cs col with
  | some u =>
    rw [hf] at q
    rw [lookS_cs, hf]
    refine ⟨fun _ => ?_, fun z => by simp at z⟩
    (repeat walk_at "s")
    refine ⟨_, _, rfl, by rw [lookS_cs, hf]; rfl, ?_⟩
    (repeat walk_at "s"); walk_at "e"
    walk_at "r"
    refine ⟨fun z => ?_, fun z => ?_⟩
    · (repeat walk_at "s")
      have q : Q (knD (if u = v then Kn.kn cs o k c m else .emp)) n := q
      rw [if_pos (of_decide_eq_true z)] at q
      exact q
    · (repeat walk_at "s")
      have q : Q (knD (if u = v then Kn.kn cs o k c m else .emp)) n := q
      rw [if_neg (of_decide_eq_false z)] at q
      exact q
  | none =>
    rw [hf] at q
    rw [lookS_cs, hf]
    have put := putS_cs (v := v) hf
    obtain ⟨_, nd⟩ := h.cs.put (v := v) hc hf
    refine ⟨fun z => by simp at z, fun _ => ?_⟩
    (repeat walk_at "s")
    refine ⟨_, rfl, by unfold csS; rw [List.length_map, sizeLine_eq]; omega, ?_⟩
    rw [put]
    (repeat walk_at "s")
    refine ⟨_, in_sg col _, ?_⟩
    rw [Ls_tx]
    walk_at "r"
    have fin : ∀ (k2 : List Nat) (c2 : Bool) {B C : En → Nat → Prop}, Q (knD (.kn (srtC (cs ++ [(col, v)])) o k2 c2 (if oneK K rules keys (colsC cs ++ [col]) = true then some 1 else m))) n →
        MS (sSeq (sIf (wTru (wCall w_is_unique (wAName 0 (wACons (wCall w_common (wACons (wOp pIx (wVar 0) (wC (.int 0))) (wACons (fz (wKList 9)) wANil))) wANil)))) (sSet (wC (.int 1)) 8) sNext) (sRet (wTup (wCons (w1 pTupA (fz (wKSort 9))) (wCons (wVal 5) (wCons (wVal 6) (wCons (wVal 7) (wCons (wVal 8) wNil))))))))
          [some (.d (schD K rules keys)), some (.d (knD (.kn cs o k c m))), some (.d (sg col)), some (.d (.int v)), some (.d (.tuple (cs.map cD))), some (.d (.str (tx o))), some (.d (.str (tx k2))), some (.d (.bool c2)), some (.d (mostD m)), some (.k (csS (cs ++ [(col, v)])))] n (fun _ m => Q .none m) Q B C := by
      intro k2 c2 B C q
      walk_at "s"
      (repeat walk_at "s")
      refine ⟨_, ix_t0 _ _, ?_⟩
      (repeat walk_at "s")
      rw [csS_keys]
      refine common_runL (by omega) ?_
      (repeat walk_at "s")
      refine is_unique_run hK hR hY List.filter_sublist ?_
      have ek : colsC (cs ++ [(col, v)]) = colsC cs ++ [col] := by unfold colsC; rw [List.map_append]; rfl
      rw [ek]
      walk_at "r"
      have last : ∀ (m2 : Option Int), Q (knD (.kn (srtC (cs ++ [(col, v)])) o k2 c2 m2)) n → MS (sRet (wTup (wCons (w1 pTupA (fz (wKSort 9))) (wCons (wVal 5) (wCons (wVal 6) (wCons (wVal 7) (wCons (wVal 8) wNil)))))))
          [some (.d (schD K rules keys)), some (.d (knD (.kn cs o k c m))), some (.d (sg col)), some (.d (.int v)), some (.d (.tuple (cs.map cD))), some (.d (.str (tx o))), some (.d (.str (tx k2))), some (.d (.bool c2)), some (.d (mostD m2)), some (.k (csS (cs ++ [(col, v)])))] n (fun _ m => Q .none m) Q B C := by
        intro m2 q
        (repeat walk_at "s")
        refine m_ksort rfl (by rw [csS_pair]; exact cs_alike _) (by rw [csS_pair]; exact cs_sortable _) (by unfold csS; rw [List.length_map, List.length_append]; simp; omega) (by rw [csS_pair]; exact cs_depth _) ?_
        rw [csS_pair, srt_cs nd]
        walk_at "r"
        (repeat walk_at "s")
        exact ⟨by show 5 ≤ sizeLine; decide, q⟩
      refine ⟨fun z => ?_, fun z => ?_⟩
      · walk_at "s"; walk_at "s"
        rw [if_pos (show oneK K rules keys (colsC cs ++ [col]) = true from z)] at q
        exact last (some 1) q
      · walk_at "s"
        rw [if_neg (by rw [show oneK K rules keys (colsC cs ++ [col]) = false from z]; exact Bool.false_ne_true)] at q
        exact last m q
    refine ⟨fun z => ?_, fun z => ?_⟩
    · have hk : col ∉ k := by simpa using z
      (repeat walk_at "s")
      refine ⟨by show 2 ≤ sizeLine; decide, _, rfl, ?_⟩
      refine fin [] false ?_
      have q : Q (knD (.kn (srtC (cs ++ [(col, v)])) o (if col ∈ k then k else []) (c && decide (col ∈ k)) (if oneK K rules keys (colsC cs ++ [col]) = true then some 1 else m))) n := q
      rw [if_neg hk, decide_eq_false hk, Bool.and_false] at q
      exact q
    · have hk : col ∈ k := by simpa using z
      walk_at "s"
      refine fin k c ?_
      have q : Q (knD (.kn (srtC (cs ++ [(col, v)])) o (if col ∈ k then k else []) (c && decide (col ∈ k)) (if oneK K rules keys (colsC cs ++ [col]) = true then some 1 else m))) n := q
      rw [if_pos hk, decide_eq_true hk, Bool.and_true] at q
      exact q
end
section
variable {n : Nat} {Q : PyData → Nat → Prop} {K X : List Nat} {rules : List Rule} {keys : List (List Nat)} {cs : CsT} {o k : List Nat} {c : Bool} {m : Option Int}
theorem enum_atS {xs : List PyData} {x : PyData} {r : List PyData} {k : Nat} (h : x :: r = (enumD xs).drop k) : ∃ hk : k < xs.length, x = .tuple [.int (k : Nat), xs[k]] ∧ r = (enumD xs).drop (k + 1) := by
  have hl : (enumD xs).length = xs.length := by simp [enumD]
  have hk : k < (enumD xs).length := by
    rcases Nat.lt_or_ge k (enumD xs).length with q | q
    · exact q
    · rw [List.drop_of_length_le q] at h; cases h
  rw [List.drop_eq_getElem_cons hk] at h
  obtain ⟨h1, h2⟩ := List.cons.inj h
  refine ⟨by omega, ?_, h2⟩
  rw [h1]
  simp [enumD]
theorem pre_at {k p : List Nat} {j : Nat} (h : ∀ i (hi : i < p.length), i < j → p[i] ∈ k) (hj : j ≤ p.length) (st : ∀ hl : j < p.length, p[j] ∉ k) : preS k p = p.take j := by
  unfold preS
  induction p generalizing j with
  | nil => simp
  | cons a p ih =>
    cases j with
    | zero =>
      have := st (by simp)
      rw [List.takeWhile_cons_of_neg (by simpa using this)]
      rfl
    | succ j =>
      have h0 := h 0 (by simp) (by omega)
      rw [List.takeWhile_cons_of_pos (by simpa using h0), List.take_succ_cons, ih (j := j)]
      · intro i hi hij
        exact h (i + 1) (by simpa using hi) (by omega)
      · simpa using hj
      · intro hl
        exact st (by simpa using hl)
theorem known_beginning_run {p : List Nat} (lp : p.length ≤ 1000) (q : Q (.str (tx (preS k p))) n) : MD w__known_beginning [.d (.str (tx k)), .d (.str (tx p))] n Q := by
  refine md_def rfl rfl ?_
  unfold t__known_beginning
  walk_at "s"
  refine n_for ?_
  refine m_enumS ?_
  (repeat walk_at "s")
  refine ⟨_, rfl, fun rest e m => m = n ∧ ∃ (j : Nat) (x2 x3 : Option Sl), rest = (enumD (chS (tx p))).drop j ∧ j ≤ p.length ∧ (∀ i (hi : i < p.length), i < j → p[i] ∈ k) ∧ e = [some (.d (.str (tx k))), some (.d (.str (tx p))), x2, x3],
    ⟨rfl, 0, none, none, rfl, Nat.zero_le _, fun i _ z => absurd z (Nat.not_lt_zero _), rfl⟩, fun x rest e m hI => ?_, fun e m hI => ?_⟩
  · obtain ⟨rfl, j, x2, x3, e2, hj, hp, rfl⟩ := hI
    obtain ⟨hk, rfl, er⟩ := enum_atS e2
    have hl : (chS (tx p)).length = p.length := by rw [chS_eq, List.length_map, Ls_tx]
    have jl : j < p.length := by omega
    have ec : (chS (tx p))[j] = sg p[j] := by
      have : (chS (tx p)) = p.map sg := by rw [chS_eq, Ls_tx]
      simp [this]
    rw [ec]
    refine ⟨_, rfl, ?_⟩
    (repeat walk_at "s")
    refine ⟨_, in_sg _ _, ?_⟩
    rw [Ls_tx]
    walk_at "r"
    refine ⟨fun z => ?_, fun z => ?_⟩
    · have nk : p[j] ∉ k := by simpa using z
      (repeat walk_at "s")
      refine ⟨_, rfl, ?_⟩
      refine ⟨_, sl_to (by omega) (by omega), ?_⟩
      rw [pre_at hp hj fun _ => nk] at q
      exact q
    · have ik : p[j] ∈ k := by simpa using z
      (repeat walk_at "s")
      refine ⟨rfl, j + 1, _, _, er, by omega, fun i hi hij => ?_, rfl⟩
      by_cases z : i = j
      · subst z; exact ik
      · exact hp i hi (by omega)
  · obtain ⟨rfl, j, x2, x3, e2, hj, hp, rfl⟩ := hI
    have hl : (enumD (chS (tx p))).length = p.length := by simp [enumD, chS_eq, Ls_tx]
    have jl : j = p.length := by
      have h1 : ((enumD (chS (tx p))).drop j).length = 0 := by rw [← e2]; rfl
      rw [List.length_drop] at h1
      omega
    (repeat walk_at "s")
    rw [pre_at hp hj fun z => by omega, jl, List.take_length] at q
    exact q
end
section
variable {n : Nat} {Q : PyData → Nat → Prop} {K X : List Nat} {rules : List Rule} {keys : List (List Nat)} {cs : CsT} {o k : List Nat} {c : Bool} {m : Option Int}
theorem after_sorting_run {b : Bool} {p : List Nat} (hK : ColsOk K) (h : KnP K cs o k m) (hs : (∀ c ∈ p, c ∈ K) ∧ p.Nodup) (q : Q (knD (.kn cs (afS k o b p) k c m)) n) :
    MD w__after_sorting [.d (knD (.kn cs o k c m)), .d (.str (if b = true then Str.ofString "stable" else Str.ofString "sort")), .d (.str (tx p))] n Q := by
  have hK5 := hK.few
  have lp : p.length ≤ 5 := Nat.le_trans (nodup_len hs.2 hs.1) hK5
  have lo : o.length ≤ 5 := Nat.le_trans (nodup_len h.ond h.osub) hK5
  refine md_def rfl rfl ?_
  unfold t__after_sorting
  walk_at "s"
  (repeat walk_at "s")
  walk_at "r"
  (repeat walk_at "s")
  refine known_beginning_run (by omega) ?_
  walk_at "s"
  have last : ∀ (o2 : List Nat) {x9 : Option Sl} {B C : En → Nat → Prop}, Q (knD (.kn cs o2 k c m)) n → MS (sRet (wTup (wCons (wVal 3) (wCons (wVal 8) (wCons (wVal 5) (wCons (wVal 6) (wCons (wVal 7) wNil)))))))
      [some (.d (knD (.kn cs o k c m))), some (.d (.str (if b = true then Str.ofString "stable" else Str.ofString "sort"))), some (.d (.str (tx p))), some (.d (.tuple (cs.map cD))), some (.d (.str (tx o))), some (.d (.str (tx k))), some (.d (.bool c)), some (.d (mostD m)), some (.d (.str (tx o2))), x9] n (fun _ m => Q .none m) Q B C := by
    intro o2 x9 B C q
    (repeat walk_at "s")
    exact ⟨by show 5 ≤ sizeLine; decide, q⟩
  (repeat walk_at "s")
  cases b with
  | false =>
    refine ⟨_, eq_str _ _, ?_⟩
    walk_at "r"
    walk_at "f"
    walk_at "f"
    walk_at "s"
    refine last (preS k p) ?_
    unfold afS at q
    rw [if_neg (fun z => Bool.noConfusion z.1)] at q
    exact q
  | true =>
    refine ⟨_, eq_str _ _, ?_⟩
    walk_at "r"
    walk_at "t"
    (repeat walk_at "s")
    refine ⟨_, eq_str _ _, ?_⟩
    walk_at "r"
    refine ⟨fun z => ?_, fun z => ?_⟩
    · have e : preS k p = p := tx_inj (of_decide_eq_true z)
      (repeat walk_at "s")
      refine ⟨_, rfl, ?_⟩
      (repeat walk_at "s")
      refine m_lcK o sg sg (fun c => !decide (c ∈ p)) ?_
      (repeat walk_at "s")
      refine ⟨_, seq_str _, by rw [Ls_tx], by rw [sizeLine_eq]; omega, fun c hc => ⟨_, rfl, fun m => ?_, fun m => ?_⟩, ?_⟩
      · (repeat walk_at "s")
        refine ⟨_, in_sg c (tx p), _, rfl, ?_, rfl⟩
        rw [Ls_tx]
        simp
      · (repeat walk_at "s")
        exact ⟨rfl, rfl⟩
      · refine ⟨_, join_sg (Nat.le_trans (List.length_filter_le _ _) (by omega)), ?_⟩
        refine ⟨_, add_str (by rw [Ls_tx, Ls_tx]; have := List.length_filter_le (fun c => !decide (c ∈ p)) o; omega), ?_⟩
        rw [Ls_tx, Ls_tx]
        refine last (p ++ o.filter fun c => !decide (c ∈ p)) ?_
        unfold afS at q
        rw [if_pos ⟨rfl, e⟩] at q
        exact q
    · have e : preS k p ≠ p := fun z2 => by
        rw [z2] at z
        have : decide (tx p = tx p) = false := z
        simp at this
      walk_at "s"
      refine last (preS k p) ?_
      unfold afS at q
      rw [if_neg (fun z => e z.2)] at q
      exact q
theorem same_fix : (K.filter fun c => decide (c ∈ colsC cs ++ o)) = K.filter fun c => decide (c ∈ o ++ colsC cs) := List.filter_congr fun c _ => by simp [or_comm]
theorem determined_run (hK : ColsOk K) (hR : RulesOk K rules) (hY : KeysOk K keys) (h : KnP K cs o k m) (q : Q (.str (tx (clos K rules keys (K.filter fun c => decide (c ∈ o ++ colsC cs))))) n) :
    MD w_determined [.d (schD K rules keys), .d (knD (.kn cs o k c m)), .d (.str "")] n Q := by
  have hK5 := hK.few
  have lo : o.length ≤ 5 := Nat.le_trans (nodup_len h.ond h.osub) hK5
  have few := h.cs.few hK
  refine md_def rfl rfl ?_
  unfold t_determined
  walk_at "s"
  (repeat walk_at "s")
  refine ⟨_, rfl, _, slT_to _ 2, ?_⟩
  walk_at "r"
  (repeat walk_at "s")
  refine ⟨_, rfl, ?_⟩
  (repeat walk_at "s")
  refine m_lcM cs cD (fun p => sg p.1) ?_
  (repeat walk_at "s")
  refine ⟨_, rfl, rfl, by rw [sizeLine_eq]; omega, fun p hp => ⟨_, rfl, fun m => ?_⟩, ?_⟩
  · (repeat walk_at "s")
    exact ⟨rfl, rfl⟩
  · have e : (cs.map fun p => sg p.1) = (colsC cs).map sg := by unfold colsC; rw [List.map_map]; rfl
    have lc : (colsC cs).length = cs.length := by unfold colsC; rw [List.length_map]
    rw [e]
    refine ⟨_, join_sg (by omega), ?_⟩
    (repeat walk_at "s")
    refine ⟨_, add_str (by rw [Ls_tx, Ls_tx]; omega), ?_⟩
    rw [Ls_tx, Ls_tx]
    (repeat walk_at "s")
    refine ⟨_, add_str (t := Str.ofString "") (by rw [Ls_tx]; show _ + 0 ≤ _; rw [List.length_append]; omega), ?_⟩
    rw [Ls_tx]
    have e0 : (colsC cs ++ o) ++ Ls (Str.ofString "") = colsC cs ++ o := by
      show _ ++ [] = _
      rw [List.append_nil]
    rw [e0]
    (repeat walk_at "s")
    refine ⟨_, ix_t0 _ _, ?_⟩
    (repeat walk_at "s")
    refine common_run (by omega) ?_
    (repeat walk_at "s")
    refine closure_run hK hR hY List.filter_sublist ?_
    rw [same_fix]
    exact q
theorem placed_run (hK : ColsOk K) (hR : RulesOk K rules) (hY : KeysOk K keys) (h : KnP K cs o k m) (q : Q (.str (tx (plcK K rules keys cs o k))) n) :
    MD w__placed [.d (schD K rules keys), .d (knD (.kn cs o k c m))] n Q := by
  have hK5 := hK.few
  have lk := h.known.length_le
  refine md_def rfl rfl ?_
  unfold t__placed
  (repeat walk_at "s")
  refine ⟨_, ix_t2 _ _ _ _, ?_⟩
  (repeat walk_at "s")
  refine determined_run hK hR hY h ?_
  (repeat walk_at "s")
  exact common_run (by omega) q
theorem after_first_run {i : Nat} (hK : ColsOk K) (hR : RulesOk K rules) (hY : KeysOk K keys) (h : KnP K cs o k m) (q : Q (knD (afC K rules keys cs o k c m true i)) n) :
    MD w__after_first [.d (schD K rules keys), .d (knD (.kn cs o k c m)), .d (.int (i : Nat))] n Q := by
  refine md_def rfl rfl ?_
  unfold t__after_first
  walk_at "s"
  (repeat walk_at "s")
  walk_at "r"
  (repeat walk_at "s"); walk_at "e"
  walk_at "r"
  unfold afC at q
  refine ⟨fun z => ?_, fun z => ?_⟩
  · have e : i = 0 := by have := of_decide_eq_true z; omega
    rw [if_pos e, if_pos rfl] at q
    (repeat walk_at "s")
    exact q
  · have e : i ≠ 0 := by have := of_decide_eq_false z; omega
    rw [if_neg e] at q
    (repeat walk_at "s")
    have last : ∀ {B C : En → Nat → Prop}, Q (knD (.kn cs o (plcK K rules keys cs o k) c (some (i : Int)))) n → MS (sRet (wTup (wCons (wVal 3) (wCons (wVal 4) (wCons (wCall w__placed (wAName 0 (wAName 1 wANil))) (wCons (wVal 6) (wCons (wVal 2) wNil)))))))
        [some (.d (schD K rules keys)), some (.d (knD (.kn cs o k c m))), some (.d (.int (i : Nat))), some (.d (.tuple (cs.map cD))), some (.d (.str (tx o))), some (.d (.str (tx k))), some (.d (.bool c)), some (.d (mostD m))] n (fun _ m => Q .none m) Q B C := by
      intro B C q
      (repeat walk_at "s")
      refine placed_run hK hR hY h ?_
      (repeat walk_at "s")
      exact ⟨by show 5 ≤ sizeLine; decide, q⟩
    cases m with
    | none =>
      walk_at "r"
      walk_at "r"
      walk_at "f"
      walk_at "f"
      walk_at "s"
      exact last q
    | some j =>
      walk_at "r"
      walk_at "r"
      walk_at "t"
      (repeat walk_at "s")
      walk_at "r"
      walk_at "r"
      have q : Q (knD (if j ≤ (i : Int) then (if true = true then Kn.kn cs o k c (some j) else .emp) else .kn cs o (plcK K rules keys cs o k) c (some (if true = true then (i : Int) else j - i)))) n := q
      refine ⟨fun z => ?_, fun z => ?_⟩
      · rw [if_pos (of_decide_eq_true z), if_pos rfl] at q
        (repeat walk_at "s")
        exact q
      · rw [if_neg (of_decide_eq_false z), if_pos rfl] at q
        walk_at "s"
        exact last q
theorem after_skip_run {i : Nat} (hK : ColsOk K) (hR : RulesOk K rules) (hY : KeysOk K keys) (h : KnP K cs o k m) (q : Q (knD (afC K rules keys cs o k c m false i)) n) :
    MD w__after_skip [.d (schD K rules keys), .d (knD (.kn cs o k c m)), .d (.int (i : Nat))] n Q := by
  refine md_def rfl rfl ?_
  unfold t__after_skip
  walk_at "s"
  (repeat walk_at "s")
  walk_at "r"
  (repeat walk_at "s"); walk_at "e"
  walk_at "r"
  unfold afC at q
  refine ⟨fun z => ?_, fun z => ?_⟩
  · have e : i = 0 := by have := of_decide_eq_true z; omega
    rw [if_pos e, if_neg Bool.false_ne_true] at q
    (repeat walk_at "s")
    exact q
  · have e : i ≠ 0 := by have := of_decide_eq_false z; omega
    rw [if_neg e] at q
    (repeat walk_at "s")
    cases m with
    | none =>
      walk_at "r"
      walk_at "r"
      walk_at "t"
      (repeat walk_at "s")
      refine placed_run hK hR hY h ?_
      (repeat walk_at "s")
      exact ⟨by show 5 ≤ sizeLine; decide, q⟩
    | some j =>
      walk_at "r"
      walk_at "r"
      walk_at "f"
      (repeat walk_at "s")
      walk_at "r"
      walk_at "r"
      have q : Q (knD (if j ≤ (i : Int) then (if false = true then Kn.kn cs o k c (some j) else .emp) else .kn cs o (plcK K rules keys cs o k) c (some (if false = true then (i : Int) else j - i)))) n := q
      refine ⟨fun z => ?_, fun z => ?_⟩
      · rw [if_pos (of_decide_eq_true z), if_neg Bool.false_ne_true] at q
        (repeat walk_at "s")
        exact q
      · rw [if_neg (of_decide_eq_false z), if_neg Bool.false_ne_true] at q
        (repeat walk_at "s")
        refine placed_run hK hR hY h ?_
        (repeat walk_at "s")
        walk_at "r"
        (repeat walk_at "s")
        exact ⟨by show 5 ≤ sizeLine; decide, q⟩
end
def isEmp : Kn → Bool
  | .emp => true
  | _ => false
theorem eq_emp (q : Kn) : eEq (knD q) (.tuple [.str "empty"]) = some (.bool (isEmp q)) := by
  show (if _ then _ else _) = _
  have h2 : min (knD q).depth (PyData.depth (.tuple [.str "empty"])) ≤ 60 := Nat.le_trans (Nat.min_le_right _ _) (by simp [PyData.depth, PyData.depthAll])
  rw [if_pos (by rw [show dfree (PyData.tuple [.str "empty"]) = true from rfl, Bool.or_true, Bool.true_and, decide_eq_true h2])]
  cases q <;> simp [knD, isEmp, PyData.eqv, PyData.eqvAll]
section
variable {n : Nat} {Q : PyData → Nat → Prop} {K X : List Nat} {rules : List Rule} {keys : List (List Nat)} {cs : CsT} {o k : List Nat} {c : Bool} {m : Option Int}
theorem kn_head {st : Stp} (hs : StpOk K st) : ∃ w r, stpD st = .tuple (.str w :: r) := by
  cases st with
  | whr c v => exact ⟨_, _, rfl⟩
  | srt b p => cases b <;> exact ⟨_, _, rfl⟩
  | cut b i => cases b <;> exact ⟨_, _, rfl⟩
  | col l => exact ⟨_, _, rfl⟩
  | grp w r => exact ⟨_, _, rfl⟩
theorem knowledge_after_run {kn : Kn} {st : Stp} (hK : ColsOk K) (hR : RulesOk K rules) (hY : KeysOk K keys) (h : KnOk K kn) (hs : StpOk K st) (q : Q (knD (aft K rules keys kn st)) n) :
    MD w_knowledge_after [.d (schD K rules keys), .d (knD kn), .d (stpD st)] n Q := by
  refine md_def rfl rfl ?_
  unfold t_knowledge_after
  cases kn with
  | emp =>
    obtain ⟨w, r, e⟩ := kn_head hs
    rw [e]
    (repeat walk_at "s"); walk_at "e"
    (repeat walk_at "s")
    refine ⟨_, eq_emp .emp, ?_⟩
    walk_at "r"
    walk_at "t"
    walk_at "t"
    (repeat walk_at "s")
    exact q
  | kn cs o k c m =>
    cases st with
    | whr col v =>
      (repeat walk_at "s"); walk_at "e"
      (repeat walk_at "s")
      refine ⟨_, eq_emp _, ?_⟩
      walk_at "r"
      walk_at "f"
      (repeat walk_at "s")
      refine ⟨_, in_tup ["count", "sum", "heads"] _, ?_⟩
      walk_at "r"
      walk_at "f"
      (repeat walk_at "s"); walk_at "e"
      walk_at "r"
      walk_at "t"
      (repeat walk_at "s"); walk_at "e"
      (repeat walk_at "s"); walk_at "e"
      (repeat walk_at "s")
      exact after_where_run hK hR hY h hs q
    | srt b p =>
      cases b with
      | true =>
        (repeat walk_at "s"); walk_at "e"
        (repeat walk_at "s")
        refine ⟨_, eq_emp _, ?_⟩
        walk_at "r"
        walk_at "f"
        (repeat walk_at "s")
        refine ⟨_, in_tup ["count", "sum", "heads"] _, ?_⟩
        walk_at "r"
        walk_at "f"
        (repeat walk_at "s"); walk_at "e"
        walk_at "r"
        walk_at "f"
        (repeat walk_at "s")
        refine ⟨_, in_tup ["sort", "stable"] _, ?_⟩
        walk_at "r"
        walk_at "t"
        (repeat walk_at "s"); walk_at "e"
        (repeat walk_at "s")
        exact after_sorting_run (b := true) hK h hs q
      | false =>
        (repeat walk_at "s"); walk_at "e"
        (repeat walk_at "s")
        refine ⟨_, eq_emp _, ?_⟩
        walk_at "r"
        walk_at "f"
        (repeat walk_at "s")
        refine ⟨_, in_tup ["count", "sum", "heads"] _, ?_⟩
        walk_at "r"
        walk_at "f"
        (repeat walk_at "s"); walk_at "e"
        walk_at "r"
        walk_at "f"
        (repeat walk_at "s")
        refine ⟨_, in_tup ["sort", "stable"] _, ?_⟩
        walk_at "r"
        walk_at "t"
        (repeat walk_at "s"); walk_at "e"
        (repeat walk_at "s")
        exact after_sorting_run (b := false) hK h hs q
    | cut b i =>
      cases b with
      | true =>
        (repeat walk_at "s"); walk_at "e"
        (repeat walk_at "s")
        refine ⟨_, eq_emp _, ?_⟩
        walk_at "r"
        walk_at "f"
        (repeat walk_at "s")
        refine ⟨_, in_tup ["count", "sum", "heads"] _, ?_⟩
        walk_at "r"
        walk_at "f"
        (repeat walk_at "s"); walk_at "e"
        walk_at "r"
        walk_at "f"
        (repeat walk_at "s")
        refine ⟨_, in_tup ["sort", "stable"] _, ?_⟩
        walk_at "r"
        walk_at "f"
        (repeat walk_at "s"); walk_at "e"
        walk_at "r"
        walk_at "t"
        (repeat walk_at "s"); walk_at "e"
        (repeat walk_at "s")
        exact after_first_run hK hR hY h q
      | false =>
        (repeat walk_at "s"); walk_at "e"
        (repeat walk_at "s")
        refine ⟨_, eq_emp _, ?_⟩
        walk_at "r"
        walk_at "f"
        (repeat walk_at "s")
        refine ⟨_, in_tup ["count", "sum", "heads"] _, ?_⟩
        walk_at "r"
        walk_at "f"
        (repeat walk_at "s"); walk_at "e"
        walk_at "r"
        walk_at "f"
        (repeat walk_at "s")
        refine ⟨_, in_tup ["sort", "stable"] _, ?_⟩
        walk_at "r"
        walk_at "f"
        (repeat walk_at "s"); walk_at "e"
        walk_at "r"
        walk_at "f"
        (repeat walk_at "s"); walk_at "e"
        walk_at "r"
        walk_at "t"
        (repeat walk_at "s"); walk_at "e"
        (repeat walk_at "s")
        exact after_skip_run hK hR hY h q
    | col l =>
      (repeat walk_at "s"); walk_at "e"
      (repeat walk_at "s")
      refine ⟨_, eq_emp _, ?_⟩
      walk_at "r"
      walk_at "f"
      (repeat walk_at "s")
      refine ⟨_, in_tup ["count", "sum", "heads"] _, ?_⟩
      walk_at "r"
      walk_at "f"
      (repeat walk_at "s"); walk_at "e"
      walk_at "r"
      walk_at "f"
      (repeat walk_at "s")
      refine ⟨_, in_tup ["sort", "stable"] _, ?_⟩
      walk_at "r"
      walk_at "f"
      (repeat walk_at "s"); walk_at "e"
      walk_at "r"
      walk_at "f"
      (repeat walk_at "s"); walk_at "e"
      walk_at "r"
      walk_at "f"
      (repeat walk_at "s")
      walk_at "r"
      (repeat walk_at "s"); walk_at "e"
      (repeat walk_at "s")
      have lk := (show KnP K cs o k m from h).known.length_le
      have := hK.few
      refine common_run (by omega) ?_
      (repeat walk_at "s")
      exact ⟨by show 5 ≤ sizeLine; decide, q⟩
    | grp w r =>
      have hw : isOf ["count", "sum", "heads"] (.str w) = true := by
        rcases hs with rfl | rfl | rfl <;> decide +kernel
      (repeat walk_at "s")
      refine ⟨_, ix_t0 _ _, ?_⟩
      (repeat walk_at "s")
      refine ⟨_, eq_emp _, ?_⟩
      walk_at "r"
      walk_at "f"
      (repeat walk_at "s")
      refine ⟨_, in_tup ["count", "sum", "heads"] _, ?_⟩
      rw [hw]
      walk_at "r"
      walk_at "t"
      (repeat walk_at "s")
      exact q
end
theorem cut_one (l : List Nat) (k : Nat) (h : k ≤ l.length) : cutS (tx l) (some (k : Int)) (some ((k + 1 : Nat) : Int)) = tx ((l.drop k).take 1) := by
  unfold cutS
  have e : (tx l).length = l.length := by simp [tx, Str.length]
  rw [HT.sIx_nat, HT.sIx_nat, e, Nat.min_eq_left h]
  by_cases h2 : k + 1 ≤ l.length
  · rw [Nat.min_eq_left h2]
    simp [tx]
  · have : k = l.length := by omega
    subst this
    rw [Nat.min_eq_right (by omega)]
    simp [tx]
theorem sl_one {l : List Nat} {k : Nat} (h : l.length ≤ 1000) (hk : k ≤ l.length) : eSl (some (k : Int)) (some ((k + 1 : Nat) : Int)) (.str (tx l)) = some (.str (tx ((l.drop k).take 1))) := by
  show (if (tx l).length ≤ sizeLine then some (PyData.str (cutS (tx l) (some (k : Int)) (some ((k + 1 : Nat) : Int)))) else none) = _
  rw [if_pos (by rw [len_Ls, Ls_tx, sizeLine_eq]; omega), cut_one l k hk]
theorem mul_tstS (l : List Nat) (c : Bool) : eMulV (.str (tx l)) (.int (if c then 1 else 0)) = some (.str (tx (if c = true then l else []))) := by
  cases c with
  | true =>
    show (if -(2 ^ 63 : Int) ≤ 1 ∧ (1 : Int) ≤ 1 then some (PyData.str (Txt.mul (tx l) 1)) else none) = _
    rw [if_pos (by decide)]
    rfl
  | false =>
    show (if -(2 ^ 63 : Int) ≤ 0 ∧ (0 : Int) ≤ 1 then some (PyData.str (Txt.mul (tx l) 0)) else none) = _
    rw [if_pos (by decide)]
    rfl
section
variable {n : Nat} {Q : PyData → Nat → Prop} {K X : List Nat} {rules : List Rule} {keys : List (List Nat)} {cs : CsT} {o k : List Nat} {c : Bool} {m : Option Int}
theorem pre_len {p : List Nat} {j : Nat} (e : preS k p = p.take j) (hj : j ≤ p.length) : preS k p = p ↔ j = p.length := by
  rw [e]
  constructor
  · intro z
    have := congrArg List.length z
    rw [List.length_take, Nat.min_eq_left hj] at this
    exact this
  · rintro rfl
    exact List.take_length
theorem law_after_sort_run {b : Bool} {p : List Nat} (hK : ColsOk K) (h : KnP K cs o k m) (hs : (∀ c ∈ p, c ∈ K) ∧ p.Nodup) (q : Q (knD (.kn cs (afS k o b p) k c m)) n) :
    MD w__law_after_sort [.d (knD (.kn cs o k c m)), .d (.str (if b = true then Str.ofString "stable" else Str.ofString "sort")), .d (.str (tx p))] n Q := by
  have hK5 := hK.few
  have lp : p.length ≤ 5 := Nat.le_trans (nodup_len hs.2 hs.1) hK5
  have lo : o.length ≤ 5 := Nat.le_trans (nodup_len h.ond h.osub) hK5
  refine md_def rfl rfl ?_
  unfold t__law_after_sort
  walk_at "s"
  (repeat walk_at "s")
  walk_at "r"
  walk_at "s"; walk_at "s"; walk_at "s"
  walk_at "s"
  refine n_while (k0 := p.length) (fun kk e m' => m' = n ∧ ∃ j : Nat, j + kk = p.length ∧ (∀ i (hi : i < p.length), i < j → p[i] ∈ k) ∧ e = [some (.d (knD (.kn cs o k c m))), some (.d (.str (if b = true then Str.ofString "stable" else Str.ofString "sort"))), some (.d (.str (tx p))), some (.d (.tuple (cs.map cD))), some (.d (.str (tx o))), some (.d (.str (tx k))), some (.d (.bool c)), some (.d (mostD m)), some (.d (.int (j : Nat))), none, none])
    ⟨rfl, 0, by omega, fun i _ z => absurd z (Nat.not_lt_zero _), rfl⟩ fun kk e m' hI => ?_
  obtain ⟨rfl, j, ek, hp, rfl⟩ := hI
  have hj : j ≤ p.length := by omega
  have fin : ∀ {B C : En → Nat → Prop}, (∀ hl : j < p.length, p[j] ∉ k) → MS (sSeq (sSet (wMS pJoin (wC (.str "")) (fz (fLc (wSeq (wVar 4)) (.nm 10) (wTt (wOp (pIn2 true) (wVar 10) (wVar 2))) (wVal 10) [10]))) 9) (sRet (wTup (wCons (wVal 3) (wCons (wOp pAdd (wSl (wVar 2) wNoPart (wPart (wVar 8))) (wOp pMulV (wVar 9) (w1 pInt (wAndE (wOp pEq2 (wVar 1) (wC (.str "stable"))) (wOp pEq2 (wVar 8) (w1 pLen (wVar 2))))))) (wCons (wVal 5) (wCons (wVal 6) (wCons (wVal 7) wNil))))))))
      [some (.d (knD (.kn cs o k c m))), some (.d (.str (if b = true then Str.ofString "stable" else Str.ofString "sort"))), some (.d (.str (tx p))), some (.d (.tuple (cs.map cD))), some (.d (.str (tx o))), some (.d (.str (tx k))), some (.d (.bool c)), some (.d (mostD m)), some (.d (.int (j : Nat))), none, none] m' (fun _ m => Q .none m) Q B C := by
    intro B C st
    have ep := pre_at hp hj st
    have el := pre_len ep hj
    walk_at "s"
    (repeat walk_at "s")
    refine ⟨_, rfl, ?_⟩
    (repeat walk_at "s")
    refine m_lcK o sg sg (fun c => !decide (c ∈ p)) ?_
    (repeat walk_at "s")
    refine ⟨_, seq_str _, by rw [Ls_tx], by rw [sizeLine_eq]; omega, fun c hc => ⟨_, rfl, fun m => ?_, fun m => ?_⟩, ?_⟩
    · (repeat walk_at "s")
      refine ⟨_, in_sg c (tx p), _, rfl, ?_, rfl⟩
      rw [Ls_tx]
      simp
    · (repeat walk_at "s")
      exact ⟨rfl, rfl⟩
    · have lf := List.length_filter_le (fun c => !decide (c ∈ p)) o
      refine ⟨_, join_sg (by omega), ?_⟩
      (repeat walk_at "s")
      walk_at "r"
      refine ⟨_, sl_to (by omega) hj, ?_⟩
      (repeat walk_at "s")
      have mul : ∀ (g : Bool), (g = true ↔ b = true ∧ preS k p = p) → ∃ z, eInt (.bool g) = some z ∧ ∃ z1, eMulV (.str (tx (o.filter fun c => !decide (c ∈ p)))) z = some z1 ∧ ∃ z2, eAdd (.str (tx (p.take j))) z1 = some z2 ∧
          ME (wCons (wVal 5) (wCons (wVal 6) (wCons (wVal 7) wNil))) [some (.d (knD (.kn cs o k c m))), some (.d (.str (if b = true then Str.ofString "stable" else Str.ofString "sort"))), some (.d (.str (tx p))), some (.d (.tuple (cs.map cD))), some (.d (.str (tx o))), some (.d (.str (tx k))), some (.d (.bool c)), some (.d (mostD m)), some (.d (.int (j : Nat))), some (.d (.str (tx (o.filter fun c => !decide (c ∈ p))))), none] m'
            (fun xs m' => (PyData.tuple (cs.map cD) :: z2 :: xs).length ≤ sizeLine ∧ Q (.tuple (.tuple (cs.map cD) :: z2 :: xs)) m') := by
        intro g hg
        refine ⟨_, rfl, _, mul_tstS _ g, _, add_str (by rw [Ls_tx, Ls_tx, List.length_take]; have := Nat.min_le_right j p.length; split <;> first | omega | (simp only [List.length_nil]; omega)), ?_⟩
        rw [Ls_tx, Ls_tx]
        (repeat walk_at "s")
        refine ⟨by show 5 ≤ sizeLine; decide, ?_⟩
        have e : p.take j ++ (if g = true then o.filter fun c => !decide (c ∈ p) else []) = afS k o b p := by
          unfold afS
          by_cases hg2 : g = true
          · have := hg.mp hg2
            rw [if_pos hg2, if_pos this, ← ep, this.2]
          · rw [if_neg hg2, if_neg (fun z => hg2 (hg.mpr z)), List.append_nil, ep]
        rw [e]
        exact q
      cases b with
      | false =>
        refine ⟨_, eq_str _ _, ?_⟩
        walk_at "r"
        walk_at "f"
        exact mul false ⟨fun z => Bool.noConfusion z, fun z => Bool.noConfusion z.1⟩
      | true =>
        refine ⟨_, eq_str _ _, ?_⟩
        walk_at "r"
        walk_at "t"
        (repeat walk_at "s")
        refine ⟨_, len_str (by rw [Ls_tx]; omega), ?_⟩
        rw [Ls_tx]
        refine ⟨_, eq_int _ _, ?_⟩
        exact mul _ ⟨fun z => ⟨rfl, el.mpr (by have := of_decide_eq_true z; omega)⟩, fun z => decide_eq_true (by have := el.mp z.2; omega)⟩
  (repeat walk_at "s")
  walk_at "r"
  (repeat walk_at "s")
  refine ⟨.int ((j + 1 : Nat) : Int), by rw [show ((j + 1 : Nat) : Int) = (j : Int) + 1 by omega]; rfl, _, rfl, ?_⟩
  refine ⟨_, sl_one (by omega) hj, ?_⟩
  (repeat walk_at "s")
  refine ⟨_, ne2_str _ _, ?_⟩
  walk_at "r"
  by_cases jl : j < p.length
  · have hd : (p.drop j).take 1 = [p[j]] := by rw [List.drop_eq_getElem_cons jl]; rfl
    rw [hd, show decide (tx [p[j]] = Str.ofString "") = false from decide_eq_false fun z => by
      have := congrArg Ls z
      rw [Ls_tx] at this
      cases this]
    walk_at "t"
    (repeat walk_at "s")
    refine ⟨_, ix_str jl (by omega), ?_⟩
    (repeat walk_at "s")
    refine ⟨_, in_sg _ _, ?_⟩
    rw [Ls_tx]
    walk_at "r"
    refine ⟨fun z => ?_, fun z => fin fun _ => by simpa using z⟩
    have ik : p[j] ∈ k := by simpa using z
    refine ⟨kk - 1, by omega, ?_⟩
    (repeat walk_at "s")
    refine ⟨.int ((j + 1 : Nat) : Int), by rw [show ((j + 1 : Nat) : Int) = (j : Int) + 1 by omega]; rfl, ?_⟩
    refine ⟨rfl, j + 1, by omega, fun i hi hij => ?_, rfl⟩
    by_cases z : i = j
    · subst z; exact ik
    · exact hp i hi (by omega)
  · have ej : j = p.length := by omega
    rw [show decide (tx ((p.drop j).take 1) = Str.ofString "") = true from decide_eq_true (by rw [ej, List.drop_length]; rfl)]
    walk_at "f"
    refine ⟨fun z => Bool.noConfusion z, fun _ => fin fun hl => absurd hl jl⟩
end
section
variable {n : Nat} {Q : PyData → Nat → Prop} {K f part X : List Nat} {rules : List Rule} {keys : List (List Nat)}
theorem in_true {α : Type} (g : α → Bool) (xs : List α) : eIn false (.bool true) (.list (xs.map fun x => .bool (g x))) = some (.bool (xs.any g)) := by
  show eInL false (.bool true) (.list _) = _
  unfold eInL
  show (if _ then _ else _) = _
  rw [if_pos (by simp [dfree, PyData.depth])]
  refine congrArg (fun b => some (PyData.bool b)) ?_
  rw [List.any_map]
  have : ((fun z => PyData.eqv z (.bool true)) ∘ fun x => PyData.bool (g x)) = g := by
    funext x
    show PyData.eqv (.bool (g x)) (.bool true) = _
    cases g x <;> simp [PyData.eqv]
  rw [this]
  simp
theorem all_in_run (hl : part.length ≤ 1000) (q : Q (.bool (inB part f)) n) : MD w__law_all_in [.d (.str (tx part)), .d (.str (tx f))] n Q := by
  refine md_def rfl rfl ?_
  unfold t__law_all_in
  walk_at "s"; walk_at "s"; walk_at "s"
  refine m_lcK part sg sg (fun c => !decide (c ∈ f)) ?_
  (repeat walk_at "s")
  refine ⟨_, seq_str _, by rw [Ls_tx], by rw [sizeLine_eq]; omega, fun c hc => ⟨_, rfl, fun m => ?_, fun m => ?_⟩, ?_⟩
  · (repeat walk_at "s")
    refine ⟨_, in_sg c (tx f), _, rfl, ?_, rfl⟩
    rw [Ls_tx]
    simp
  · (repeat walk_at "s")
    exact ⟨rfl, rfl⟩
  · (repeat walk_at "s")
    refine ⟨Nat.zero_le _, _, eq_nilL _, ?_⟩
    have e : inB part f = ((part.filter fun c => !decide (c ∈ f)).map sg).isEmpty := by
      rw [List.isEmpty_map, Bool.eq_iff_iff, List.isEmpty_iff, List.filter_eq_nil_iff, inB_iff]
      simp
    rw [e] at q
    exact q
theorem ne2_none {l : List Nat} (h : okS (tx l)) : eNe2 (.str (tx l)) .none = some (.bool true) := by
  show eNe (.str (tx l)) .none = _
  unfold eNe
  rw [if_pos (by rw [shaped_str (okS_str h)]; rfl)]
  rfl
theorem turn_run {g : List Nat} {bf : PyData} {x4 x5 x6 : Option Sl} {N : En → Nat → Prop} {R : PyData → Nat → Prop} {B C : En → Nat → Prop} (hK : ColsOk K) (hR : RulesOk K rules) (hY : KeysOk K keys) (lg : LawG K rules keys X g)
    (q : ∀ x4 x5 x6, N [some (.d (schD K rules keys)), some (.d (.str (tx X))), some (.d (.str (tx (turnL K rules keys g)))), some (.d (.str (tx g))), x4, x5, x6, none] n) :
    MS (sSeq (sSet (wVal 2) 3) (sSeq (sFor (wSeq (wOp pIx (wVar 0) (wC (.int 1)))) (.tp [4, 5]) (sIf (wAndT (wTru (wCall w__law_all_in (wAName 4 (wAName 2 wANil)))) (wTt (wOp (pIn2 true) (wVar 5) (wVar 2)))) (sSet (wOp pAdd (wVar 2) (wVar 5)) 2) sNext)) (sIf (wTt (wOp (pIn2 false) (wC (.bool true)) (fz (fLc (wSeq (wOp pIx (wVar 0) (wC (.int 2)))) (.nm 6) wYes (wCall w__law_all_in (wAName 6 (wAName 2 wANil))) [6])))) (sSet (wOp pIx (wVar 0) (wC (.int 0))) 2) sNext))) [some (.d (schD K rules keys)), some (.d (.str (tx X))), some (.d (.str (tx g))), some (.d bf), x4, x5, x6, none] n N R B C := by
  have hK5 := hK.few
  have hr : ∀ p ∈ rules, p.2 ∈ K := fun p hp => (hR.one p hp).2.1
  have hle : ∀ {g : List Nat}, LawG K rules keys X g → g.length ≤ 20 := fun hg => by have := hg.len; omega
  walk_at "s"
  (repeat walk_at "s")
  refine n_for ?_
  (repeat walk_at "s"); walk_at "e"
  refine ⟨_, rfl, fun rest e m => m = n ∧ ∃ (post : List Rule) (f : List Nat) (x4 x5 : Option Sl), rest = post.map ruD ∧ (∀ p ∈ post, p ∈ rules) ∧ LawG K rules keys X f ∧ post.foldl addR f = rules.foldl addR g ∧
      e = [some (.d (schD K rules keys)), some (.d (.str (tx X))), some (.d (.str (tx f))), some (.d (.str (tx g))), x4, x5, x6, none],
    ⟨rfl, rules, g, x4, x5, rfl, fun _ h => h, lg, rfl, rfl⟩, fun x rest e m hI => ?_, fun e m hI => ?_⟩
  · obtain ⟨rfl, post, f, x4, x5, e2, hp, lf, ef, rfl⟩ := hI
    cases post with
    | nil => cases e2
    | cons p post =>
    rw [List.map_cons] at e2
    obtain ⟨rfl, rfl⟩ := List.cons.inj e2
    have hpr := hp p List.mem_cons_self
    have lf2 := (addR_lawG (hK.asc.imp fun h => Nat.ne_of_lt h) hpr hr lf).1
    have l5 := hle lf
    refine ⟨_, rfl, ?_⟩
    (repeat walk_at "s")
    refine all_in_run (Nat.le_trans (hR.one p hpr).1.length_le (by omega)) ?_
    walk_at "r"
    refine ⟨fun h => ?_, fun h => ?_⟩
    · (repeat walk_at "s")
      refine ⟨_, in_sg _ _, ?_⟩
      rw [Ls_tx]
      walk_at "r"
      refine ⟨fun h2 => ?_, fun h2 => ?_⟩
      · have h3 : p.2 ∉ f := by simpa using h2
        have e : addR f p = f ++ [p.2] := if_pos ⟨h, h3⟩
        (repeat walk_at "s")
        refine ⟨_, add_str (t := tx [p.2]) (by rw [Ls_tx, Ls_tx]; simp; omega), ?_⟩
        rw [Ls_tx, Ls_tx]
        rw [e] at lf2
        refine ⟨rfl, post, f ++ [p.2], _, _, rfl, fun q hq => hp q (List.mem_cons_of_mem _ hq), lf2, ?_, rfl⟩
        rw [← e]
        exact ef
      · have h3 : p.2 ∈ f := by simpa using h2
        have e : addR f p = f := if_neg fun z => z.2 h3
        (repeat walk_at "s")
        refine ⟨rfl, post, f, _, _, rfl, fun q hq => hp q (List.mem_cons_of_mem _ hq), lf, ?_, rfl⟩
        rw [← ef]
        show post.foldl addR f = post.foldl addR (addR f p)
        rw [e]
    · have e : addR f p = f := if_neg fun z => by rw [z.1] at h; cases h
      (repeat walk_at "s")
      refine ⟨fun h => Bool.noConfusion h, fun _ => ?_⟩
      (repeat walk_at "s")
      refine ⟨rfl, post, f, _, _, rfl, fun q hq => hp q (List.mem_cons_of_mem _ hq), lf, ?_, rfl⟩
      rw [← ef]
      show post.foldl addR f = post.foldl addR (addR f p)
      rw [e]
  · obtain ⟨rfl, post, f, x4, x5, e2, hp, lf, ef, rfl⟩ := hI
    have e0 : post = [] := by cases post with | nil => rfl | cons c r => cases e2
    subst e0
    have ef : f = rules.foldl addR g := ef
    (repeat walk_at "s")
    refine m_lcM keys keD (fun k => .bool (inB k f)) ?_
    (repeat walk_at "s"); walk_at "e"
    refine ⟨_, rfl, rfl, by rw [sizeLine_eq]; have := hY.few; omega, fun k hk => ⟨_, rfl, fun m => ?_⟩, _, in_true _ keys, ?_⟩
    · (repeat walk_at "s")
      exact all_in_run (Nat.le_trans (hY.one k hk).1.length_le (by omega)) ⟨rfl, rfl⟩
    · walk_at "r"
      have q' := q x4 x5 x6
      refine ⟨fun h => ?_, fun h => ?_⟩
      · (repeat walk_at "s"); walk_at "e"
        have e : turnL K rules keys g = K := if_pos (by rw [← ef]; exact h)
        rw [e] at q'
        exact q'
      · (repeat walk_at "s")
        have e : turnL K rules keys g = f := by
          rw [ef]
          exact if_neg (by rw [← ef, h]; exact Bool.false_ne_true)
        rw [e] at q'
        exact q'
theorem law_closure_run (hK : ColsOk K) (hR : RulesOk K rules) (hY : KeysOk K keys) (hX : ∀ c ∈ X, c ∈ K) (lX : X.length ≤ 15) (q : Q (.str (tx (clos K rules keys (K.filter fun c => decide (c ∈ X))))) n) : MD w__law_closure [.d (schD K rules keys), .d (.str (tx X))] n Q := by
  have hK5 := hK.few
  have nd : K.Nodup := hK.asc.imp fun h => Nat.ne_of_lt h
  have hr : ∀ p ∈ rules, p.2 ∈ K := fun p hp => (hR.one p hp).2.1
  have hle : ∀ {g : List Nat}, LawG K rules keys X g → g.length ≤ 20 := fun hg => by have := hg.len; omega
  have l0 : LawG K rules keys X X := ⟨⟨fun _ h => h, fun _ _ h => h⟩, hX, by have := miss_le K X; omega⟩
  refine md_def rfl rfl ?_
  unfold t__law_closure
  walk_at "s"
  (repeat walk_at "s")
  refine ⟨by show 2 ≤ sizeLine; decide, _, rfl, ?_⟩
  walk_at "s"
  refine n_while (k0 := 7) (fun k e m => m = n ∧ ∃ (g : List Nat) (bf : PyData) (x4 x5 x6 : Option Sl), LawG K rules keys X g ∧ (bf = .none ∨ ∃ h, bf = .str (tx h) ∧ LawG K rules keys X h ∧ g = turnL K rules keys h) ∧
      (bf ≠ .str (tx g) → leftG K g + 1 ≤ k) ∧ e = [some (.d (schD K rules keys)), some (.d (.str (tx X))), some (.d (.str (tx g))), some (.d bf), x4, x5, x6, none])
    ⟨rfl, X, .none, none, none, none, l0, .inl rfl, fun _ => by have := miss_le K X; unfold leftG; split <;> omega, rfl⟩ fun k e m hI => ?_
  obtain ⟨rfl, g, bf, x4, x5, x6, lg, hb, hk, rfl⟩ := hI
  have turn : bf ≠ .str (tx g) → ∃ k', k = k' + 1 ∧ leftG K g ≤ k' := fun h => ⟨k - 1, by have := hk h; omega, by have := hk h; omega⟩
  have okg : ∀ {h : List Nat}, LawG K rules keys X h → okS (tx h) := fun lh => ⟨by rw [Ls_tx]; have := hle lh; omega, fun c hc => by
    rw [Ls_tx] at hc
    exact Nat.lt_trans (hK.low c (lh.sub c hc)) (by decide)⟩
  have nx : bf ≠ .str (tx g) → ∃ k', k = k' + 1 ∧ ∀ B C, MS (sSeq (sSet (wVal 2) 3) (sSeq (sFor (wSeq (wOp pIx (wVar 0) (wC (.int 1)))) (.tp [4, 5]) (sIf (wAndT (wTru (wCall w__law_all_in (wAName 4 (wAName 2 wANil)))) (wTt (wOp (pIn2 true) (wVar 5) (wVar 2)))) (sSet (wOp pAdd (wVar 2) (wVar 5)) 2) sNext)) (sIf (wTt (wOp (pIn2 false) (wC (.bool true)) (fz (fLc (wSeq (wOp pIx (wVar 0) (wC (.int 2)))) (.nm 6) wYes (wCall w__law_all_in (wAName 6 (wAName 2 wANil))) [6])))) (sSet (wOp pIx (wVar 0) (wC (.int 0))) 2) sNext))) [some (.d (schD K rules keys)), some (.d (.str (tx X))), some (.d (.str (tx g))), some (.d bf), x4, x5, x6, none] m
      (fun e2 m2 => m2 = m ∧ ∃ (g : List Nat) (bf : PyData) (x4 x5 x6 : Option Sl), LawG K rules keys X g ∧ (bf = .none ∨ ∃ h, bf = .str (tx h) ∧ LawG K rules keys X h ∧ g = turnL K rules keys h) ∧
      (bf ≠ .str (tx g) → leftG K g + 1 ≤ k') ∧ e2 = [some (.d (schD K rules keys)), some (.d (.str (tx X))), some (.d (.str (tx g))), some (.d bf), x4, x5, x6, none]) (fun r m => Q r m) B C := fun h => by
    obtain ⟨k', ek, lk⟩ := turn h
    refine ⟨k', ek, fun B C => (turn_run (B := B) (C := C) (R := fun r m => Q r m) hK hR hY lg (N := fun e2 m2 => m2 = m ∧ ∃ (g : List Nat) (bf : PyData) (x4 x5 x6 : Option Sl), LawG K rules keys X g ∧ (bf = .none ∨ ∃ h, bf = .str (tx h) ∧ LawG K rules keys X h ∧ g = turnL K rules keys h) ∧
      (bf ≠ .str (tx g) → leftG K g + 1 ≤ k') ∧ e2 = [some (.d (schD K rules keys)), some (.d (.str (tx X))), some (.d (.str (tx g))), some (.d bf), x4, x5, x6, none]) fun x4 x5 x6 => ⟨rfl, turnL K rules keys g, .str (tx g), x4, x5, x6, turnL_lawG nd hK5 hr lg, .inr ⟨g, rfl, lg, rfl⟩, fun ne => ?_, rfl⟩)⟩
    have : turnL K rules keys g ≠ g := fun z => ne (by rw [z])
    have := leftG_less nd hr lg this
    omega
  (repeat walk_at "s")
  rcases hb with rfl | ⟨h, rfl, lh, eg⟩
  · refine ⟨_, ne2_none (okg lg), ?_⟩
    walk_at "r"
    refine ⟨fun _ => ?_, fun z => Bool.noConfusion z⟩
    obtain ⟨k', ek, hm⟩ := nx (fun z => nomatch z)
    exact ⟨k', ek, hm _ _⟩
  · refine ⟨_, ne2_str _ _, ?_⟩
    walk_at "r"
    refine ⟨fun z => ?_, fun z => ?_⟩
    · obtain ⟨k', ek, hm⟩ := nx fun e => by
        have : tx h = tx g := by injection e
        rw [this] at z
        simp at z
      exact ⟨k', ek, hm _ _⟩
    · have e : tx g = tx h := by simpa using z
      have e := tx_inj e
      subst e
      have cl := turnL_fixG hr eg.symm
      have ec := clos_of nd hr List.filter_sublist (btw_filter lg.btw hX) cl
      (repeat walk_at "s")
      refine ⟨_, rfl, ?_⟩
      (repeat walk_at "s")
      refine m_lcK K sg sg (fun c => decide (c ∈ g)) ?_
      (repeat walk_at "s"); walk_at "e"
      refine ⟨_, seq_str _, by rw [Ls_tx], by rw [sizeLine_eq]; omega, fun c hc => ⟨_, rfl, fun m => ?_, fun m => ?_⟩, ?_⟩
      · (repeat walk_at "s")
        refine ⟨_, in_sg c (tx g), _, rfl, ?_, rfl⟩
        rw [Ls_tx]
        simp
      · (repeat walk_at "s")
        exact ⟨rfl, rfl⟩
      · rw [ec]
        refine ⟨_, join_sg (by rw [← ec]; exact Nat.le_trans (List.length_filter_le _ _) (by omega)), q⟩
end
section
variable {n : Nat} {Q : PyData → Nat → Prop} {K X : List Nat} {rules : List Rule} {keys : List (List Nat)} {cs : CsT} {o k : List Nat} {c : Bool} {m : Option Int}
theorem law_names_run (few : cs.length ≤ 100) (q : Q (.str (tx (colsC cs))) n) : MD w__law_names [.d (.tuple (cs.map cD))] n Q := by
  refine md_def rfl rfl ?_
  unfold t__law_names
  (repeat walk_at "s")
  refine ⟨_, rfl, ?_⟩
  (repeat walk_at "s")
  refine m_lcM cs cD (fun p => sg p.1) ?_
  (repeat walk_at "s")
  refine ⟨_, rfl, rfl, by rw [sizeLine_eq]; omega, fun p hp => ⟨_, rfl, fun m => ?_⟩, ?_⟩
  · (repeat walk_at "s")
    exact ⟨rfl, rfl⟩
  · have e : (cs.map fun p => sg p.1) = (colsC cs).map sg := by unfold colsC; rw [List.map_map]; rfl
    rw [e]
    exact ⟨_, join_sg (by unfold colsC; rw [List.length_map]; omega), q⟩
theorem law_is_one_run (hK : ColsOk K) (hR : RulesOk K rules) (hY : KeysOk K keys) (hX : ∀ c ∈ X, c ∈ K) (lX : X.length ≤ 15) (q : Q (.bool (oneK K rules keys X)) n) : MD w__law_is_one [.d (schD K rules keys), .d (.str (tx X))] n Q := by
  have hK5 := hK.few
  refine md_def rfl rfl ?_
  unfold t__law_is_one
  walk_at "s"
  (repeat walk_at "s")
  refine law_closure_run hK hR hY hX lX ?_
  (repeat walk_at "s")
  refine m_lcM keys keD (fun k => .bool (inB k (clos K rules keys (K.filter fun c => decide (c ∈ X))))) ?_
  (repeat walk_at "s"); walk_at "e"
  refine ⟨_, rfl, rfl, by rw [sizeLine_eq]; have := hY.few; omega, fun k hk => ⟨_, rfl, fun m => ?_⟩, _, in_true _ keys, q⟩
  (repeat walk_at "s")
  exact all_in_run (Nat.le_trans (hY.one k hk).1.length_le (by omega)) ⟨rfl, rfl⟩
theorem mem_oc (h : KnP K cs o k m) : ∀ c ∈ o ++ colsC cs, c ∈ K := fun c hc => (List.mem_append.mp hc).elim (h.osub c) (h.cs.sub c)
theorem cols_len : (colsC cs).length = cs.length := by unfold colsC; rw [List.length_map]
theorem law_placed_run (hK : ColsOk K) (hR : RulesOk K rules) (hY : KeysOk K keys) (h : KnP K cs o k m) (q : Q (.str (tx (plcK K rules keys cs o k))) n) :
    MD w__law_placed [.d (schD K rules keys), .d (knD (.kn cs o k c m))] n Q := by
  have hK5 := hK.few
  have lk := h.known.length_le
  have lo : o.length ≤ 5 := Nat.le_trans (nodup_len h.ond h.osub) hK5
  have few := h.cs.few hK
  have lc := cols_len (cs := cs)
  refine md_def rfl rfl ?_
  unfold t__law_placed
  walk_at "s"
  (repeat walk_at "s")
  walk_at "r"
  (repeat walk_at "s")
  refine law_names_run (by omega) ?_
  refine ⟨_, add_str (by rw [Ls_tx, Ls_tx]; omega), ?_⟩
  rw [Ls_tx, Ls_tx]
  (repeat walk_at "s")
  refine law_closure_run hK hR hY (mem_oc h) (by rw [List.length_append]; omega) ?_
  (repeat walk_at "s")
  refine ⟨_, rfl, ?_⟩
  (repeat walk_at "s")
  refine m_lcK k sg sg (fun c => decide (c ∈ clos K rules keys (K.filter fun c => decide (c ∈ o ++ colsC cs)))) ?_
  (repeat walk_at "s")
  refine ⟨_, seq_str _, by rw [Ls_tx], by rw [sizeLine_eq]; omega, fun c hc => ⟨_, rfl, fun m => ?_, fun m => ?_⟩, ?_⟩
  · (repeat walk_at "s")
    refine ⟨_, in_sg c _, _, rfl, ?_, rfl⟩
    rw [Ls_tx]
    simp
  · (repeat walk_at "s")
    exact ⟨rfl, rfl⟩
  · exact ⟨_, join_sg (Nat.le_trans (List.length_filter_le _ _) (by omega)), q⟩
theorem one_same (col : Nat) (v : Int) : oneK K rules keys (colsC (srtC (cs ++ [(col, v)]))) = oneK K rules keys (colsC cs ++ [col]) := by
  unfold oneK
  have e : (K.filter fun c => decide (c ∈ colsC (srtC (cs ++ [(col, v)])))) = K.filter fun c => decide (c ∈ colsC cs ++ [col]) := List.filter_congr fun c _ => by
    refine decide_eq_decide.mpr ?_
    have : c ∈ colsC (srtC (cs ++ [(col, v)])) ↔ c ∈ colsC (cs ++ [(col, v)]) := ((srtC_perm _).map (·.1)).mem_iff
    rw [this]
    unfold colsC
    rw [List.map_append]
    rfl
  rw [e]
theorem law_after_where_run {col : Nat} {v : Int} (hK : ColsOk K) (hR : RulesOk K rules) (hY : KeysOk K keys) (h : KnP K cs o k m) (hc : col ∈ K) (q : Q (knD (afW K rules keys cs o k c m col v)) n) :
    MD w__law_after_where [.d (schD K rules keys), .d (knD (.kn cs o k c m)), .d (sg col), .d (.int v)] n Q := by
  have hK5 := hK.few
  have few := h.cs.few hK
  have lc := cols_len (cs := cs)
  refine md_def rfl rfl ?_
  unfold t__law_after_where
  walk_at "s"
  (repeat walk_at "s")
  walk_at "r"
  (repeat walk_at "s")
  refine law_names_run (by omega) ?_
  refine ⟨_, in_sg col _, ?_⟩
  rw [Ls_tx]
  walk_at "r"
  unfold afW at q
  cases hf : fixC cs col with
  | some u =>
    have hin : col ∈ colsC cs := Classical.byContradiction fun z => by rw [fixC_none.mpr z] at hf; cases hf
    rw [hf] at q
    rw [decide_eq_true hin]
    walk_at "t"
    (repeat walk_at "s")
    refine ⟨csS cs, ⟨by rw [csS_pair], csS_nodup (asc_nodup h.cs.asc), by unfold csS; rw [List.length_map]; omega⟩, ?_⟩
    (repeat walk_at "s")
    refine ⟨_, rfl, ?_⟩
    (repeat walk_at "s")
    rw [lookS_cs, hf]
    refine ⟨_, eq_int u v, ?_⟩
    walk_at "r"
    have q : Q (knD (if u = v then Kn.kn cs o k c m else .emp)) n := q
    refine ⟨fun z => ?_, fun z => ?_⟩
    · (repeat walk_at "s")
      rw [if_pos (of_decide_eq_true z)] at q
      exact q
    · (repeat walk_at "s")
      rw [if_neg (of_decide_eq_false z)] at q
      exact ⟨by show 1 ≤ sizeLine; decide, q⟩
  | none =>
    have hin : col ∉ colsC cs := fixC_none.mp hf
    rw [hf] at q
    rw [decide_eq_false hin]
    obtain ⟨_, nd⟩ := h.cs.put (v := v) hc hf
    walk_at "f"
    (repeat walk_at "s")
    refine ⟨by show 2 ≤ sizeLine; decide, ?_⟩
    (repeat walk_at "s")
    refine ⟨by show 1 ≤ sizeLine; decide, ?_⟩
    refine ⟨_, add_tup (by rw [List.length_map]; show _ + 1 ≤ _; omega), ?_⟩
    have e1 : cs.map cD ++ [PyData.tuple [sg col, .int v]] = (cs ++ [(col, v)]).map cD := by rw [List.map_append]; rfl
    rw [e1]
    refine ⟨_, rfl, cs_alike _, cs_sortable _, by rw [List.length_map, List.length_append]; show _ + 1 ≤ _; omega, cs_depth _, ?_⟩
    rw [srt_cs nd]
    walk_at "r"
    (repeat walk_at "s")
    refine ⟨_, in_sg col _, ?_⟩
    rw [Ls_tx]
    walk_at "r"
    have ls : (srtC (cs ++ [(col, v)])).length = cs.length + 1 := by rw [(srtC_perm _).length_eq, List.length_append]; rfl
    have fin : ∀ (k2 : List Nat) (c2 : Bool) {B C : En → Nat → Prop}, Q (knD (.kn (srtC (cs ++ [(col, v)])) o k2 c2 (if oneK K rules keys (colsC cs ++ [col]) = true then some 1 else m))) n →
        MS (sRet (wTup (wCons (wVal 4) (wCons (wVal 5) (wCons (wVal 6) (wCons (wVal 7) (wCons (wIfE (wTru (wCall w__law_is_one (wAName 0 (wACons (wCall w__law_names (wAName 4 wANil)) wANil)))) (wC (.int 1)) (wVal 8)) wNil)))))))
          [some (.d (schD K rules keys)), some (.d (knD (.kn cs o k c m))), some (.d (sg col)), some (.d (.int v)), some (.d (.tuple ((srtC (cs ++ [(col, v)])).map cD))), some (.d (.str (tx o))), some (.d (.str (tx k2))), some (.d (.bool c2)), some (.d (mostD m))] n (fun _ m => Q .none m) Q B C := by
      intro k2 c2 B C q
      (repeat walk_at "s")
      refine law_names_run (by omega) ?_
      (repeat walk_at "s")
      have hin2 : ∀ c ∈ colsC (srtC (cs ++ [(col, v)])), c ∈ K := (h.cs.put (v := v) hc hf).1.sub
      refine law_is_one_run hK hR hY hin2 (by rw [cols_len]; omega) ?_
      rw [one_same]
      walk_at "r"
      refine ⟨fun z => ?_, fun z => ?_⟩
      · (repeat walk_at "s")
        rw [if_pos z] at q
        exact ⟨by show 5 ≤ sizeLine; decide, q⟩
      · (repeat walk_at "s")
        rw [if_neg (by rw [z]; exact Bool.false_ne_true)] at q
        exact ⟨by show 5 ≤ sizeLine; decide, q⟩
    have q : Q (knD (.kn (srtC (cs ++ [(col, v)])) o (if col ∈ k then k else []) (c && decide (col ∈ k)) (if oneK K rules keys (colsC cs ++ [col]) = true then some 1 else m))) n := q
    refine ⟨fun z => ?_, fun z => ?_⟩
    · have hk : col ∉ k := by simpa using z
      (repeat walk_at "s")
      refine ⟨by show 2 ≤ sizeLine; decide, _, rfl, ?_⟩
      refine fin [] false ?_
      rw [if_neg hk, decide_eq_false hk, Bool.and_false] at q
      exact q
    · have hk : col ∈ k := by simpa using z
      walk_at "s"
      refine fin k c ?_
      rw [if_pos hk, decide_eq_true hk, Bool.and_true] at q
      exact q
end
section
variable {n : Nat} {Q : PyData → Nat → Prop} {K X : List Nat} {rules : List Rule} {keys : List (List Nat)} {cs : CsT} {o k : List Nat} {c : Bool} {m : Option Int}
theorem law_cut_run {b : Bool} {i : Nat} {N : En → Nat → Prop} {B C : En → Nat → Prop} (hK : ColsOk K) (hR : RulesOk K rules) (hY : KeysOk K keys) (h : KnP K cs o k m) (q : Q (knD (afC K rules keys cs o k c m b i)) n) :
    MS (sSeq (sIf (wTt (wOp pEq2 (wOp pIx (wVar 2) (wC (.int 1))) (wC (.int 0)))) (sRet (wIfE (wTt (wOp pEq2 (wOp pIx (wVar 2) (wC (.int 0))) (wC (.str "first")))) (wTup (wCons (wC (.str "empty")) wNil)) (wVal 1))) sNext) (sSeq (sIf (wAndT (wTt (wOp (pIs true) (wVar 7) (wC .none))) (wTt (wOp pLe (wVar 7) (wOp pIx (wVar 2) (wC (.int 1)))))) (sRet (wIfE (wTt (wOp pEq2 (wOp pIx (wVar 2) (wC (.int 0))) (wC (.str "first")))) (wVal 1) (wTup (wCons (wC (.str "empty")) wNil)))) sNext) (sSeq (sSet (wIfE (wTt (wOp pEq2 (wOp pIx (wVar 2) (wC (.int 0))) (wC (.str "first")))) (wOp pIx (wVar 2) (wC (.int 1))) (wIfE (wTt (wOp (pIs false) (wVar 7) (wC .none))) (wC .none) (wOp pSub (wVar 7) (wOp pIx (wVar 2) (wC (.int 1)))))) 8) (sRet (wTup (wCons (wVal 3) (wCons (wVal 4) (wCons (wCall w__law_placed (wAName 0 (wAName 1 wANil))) (wCons (wVal 6) (wCons (wVal 8) wNil))))))))))
      [some (.d (schD K rules keys)), some (.d (knD (.kn cs o k c m))), some (.d (stpD (.cut b i))), some (.d (.tuple (cs.map cD))), some (.d (.str (tx o))), some (.d (.str (tx k))), some (.d (.bool c)), some (.d (mostD m)), none, none] n N Q B C := by
  unfold afC at q
  have e1 : ∃ w, stpD (.cut b i) = .tuple [.str w, .int (i : Nat)] ∧ isS "first" (.str w) = b := by
    cases b
    · exact ⟨_, rfl, by decide +kernel⟩
    · exact ⟨_, rfl, by decide +kernel⟩
  obtain ⟨w, ew, ef⟩ := e1
  rw [ew]
  walk_at "s"
  (repeat walk_at "s"); walk_at "e"
  (repeat walk_at "s"); walk_at "e"
  walk_at "r"
  refine ⟨fun z => ?_, fun z => ?_⟩
  · have e : i = 0 := by have := of_decide_eq_true z; omega
    rw [if_pos e] at q
    (repeat walk_at "s"); walk_at "e"
    (repeat walk_at "s"); walk_at "e"
    rw [ef]
    walk_at "r"
    cases b with
    | true =>
      walk_at "t"
      (repeat walk_at "s")
      exact ⟨by show 1 ≤ sizeLine; decide, q⟩
    | false =>
      walk_at "f"
      (repeat walk_at "s")
      exact q
  · have e : i ≠ 0 := by have := of_decide_eq_false z; omega
    rw [if_neg e] at q
    walk_at "s"
    walk_at "s"
    have last : ∀ (m2 : Option Int) {x9 : Option Sl} {B C : En → Nat → Prop}, Q (knD (.kn cs o (plcK K rules keys cs o k) c m2)) n → MS (sRet (wTup (wCons (wVal 3) (wCons (wVal 4) (wCons (wCall w__law_placed (wAName 0 (wAName 1 wANil))) (wCons (wVal 6) (wCons (wVal 8) wNil)))))))
        [some (.d (schD K rules keys)), some (.d (knD (.kn cs o k c m))), some (.d (.tuple [.str w, .int (i : Nat)])), some (.d (.tuple (cs.map cD))), some (.d (.str (tx o))), some (.d (.str (tx k))), some (.d (.bool c)), some (.d (mostD m)), some (.d (mostD m2)), x9] n N Q B C := by
      intro m2 x9 B C q
      (repeat walk_at "s")
      refine law_placed_run hK hR hY h ?_
      (repeat walk_at "s")
      exact ⟨by show 5 ≤ sizeLine; decide, q⟩
    cases m with
    | none =>
      (repeat walk_at "s")
      walk_at "r"
      walk_at "r"
      walk_at "f"
      walk_at "f"
      walk_at "s"
      walk_at "s"
      (repeat walk_at "s"); walk_at "e"
      (repeat walk_at "s"); walk_at "e"
      rw [ef]
      walk_at "r"
      cases b with
      | true =>
        walk_at "t"
        (repeat walk_at "s"); walk_at "e"
        exact last (some i) q
      | false =>
        walk_at "f"
        (repeat walk_at "s")
        walk_at "r"
        walk_at "r"
        walk_at "t"
        walk_at "s"
        exact last none q
    | some j =>
      (repeat walk_at "s")
      walk_at "r"
      walk_at "r"
      walk_at "t"
      (repeat walk_at "s"); walk_at "e"
      walk_at "r"
      walk_at "r"
      have q : Q (knD (if j ≤ (i : Int) then (if b = true then Kn.kn cs o k c (some j) else .emp) else .kn cs o (plcK K rules keys cs o k) c (some (if b = true then (i : Int) else j - i)))) n := q
      refine ⟨fun z => ?_, fun z => ?_⟩
      · rw [if_pos (of_decide_eq_true z)] at q
        (repeat walk_at "s"); walk_at "e"
        (repeat walk_at "s"); walk_at "e"
        rw [ef]
        walk_at "r"
        cases b with
        | true =>
          walk_at "t"
          (repeat walk_at "s")
          exact q
        | false =>
          walk_at "f"
          (repeat walk_at "s")
          exact ⟨by show 1 ≤ sizeLine; decide, q⟩
      · rw [if_neg (of_decide_eq_false z)] at q
        walk_at "s"
        walk_at "s"
        (repeat walk_at "s"); walk_at "e"
        (repeat walk_at "s"); walk_at "e"
        rw [ef]
        walk_at "r"
        cases b with
        | true =>
          walk_at "t"
          (repeat walk_at "s"); walk_at "e"
          exact last (some i) q
        | false =>
          walk_at "f"
          (repeat walk_at "s")
          walk_at "r"
          walk_at "r"
          walk_at "f"
          (repeat walk_at "s"); walk_at "e"
          walk_at "r"
          exact last (some (j - i)) q
end
section
variable {n : Nat} {Q : PyData → Nat → Prop} {K X : List Nat} {rules : List Rule} {keys : List (List Nat)} {cs : CsT} {o k : List Nat} {c : Bool} {m : Option Int}
theorem law_after_run {kn : Kn} {st : Stp} (hK : ColsOk K) (hR : RulesOk K rules) (hY : KeysOk K keys) (h : KnOk K kn) (hs : StpOk K st) (q : Q (knD (aft K rules keys kn st)) n) :
    MD w__law_after [.d (schD K rules keys), .d (knD kn), .d (stpD st)] n Q := by
  refine md_def rfl rfl ?_
  unfold t__law_after
  cases kn with
  | emp =>
    (repeat walk_at "s")
    refine ⟨by show 1 ≤ sizeLine; decide, ?_⟩
    refine ⟨_, eq_emp _, ?_⟩
    walk_at "r"
    walk_at "t"
    (repeat walk_at "s")
    walk_at "t"
    (repeat walk_at "s")
    exact q
  | kn cs o k c m =>
    cases st with
    | whr col v =>
      (repeat walk_at "s")
      refine ⟨by show 1 ≤ sizeLine; decide, ?_⟩
      refine ⟨_, eq_emp _, ?_⟩
      walk_at "r"
      walk_at "f"
      (repeat walk_at "s"); walk_at "e"
      (repeat walk_at "s")
      refine ⟨by show 3 ≤ sizeLine; decide, ?_⟩
      refine ⟨_, in_lst ["count", "sum", "heads"] _, ?_⟩
      walk_at "r"
      walk_at "f"
      (repeat walk_at "s"); walk_at "e"
      (repeat walk_at "s"); walk_at "e"
      walk_at "r"
      walk_at "t"
      (repeat walk_at "s"); walk_at "e"
      (repeat walk_at "s"); walk_at "e"
      (repeat walk_at "s")
      exact law_after_where_run hK hR hY h hs q
    | srt b p =>
      cases b with
      | true =>
        (repeat walk_at "s")
        refine ⟨by show 1 ≤ sizeLine; decide, ?_⟩
        refine ⟨_, eq_emp _, ?_⟩
        walk_at "r"
        walk_at "f"
        (repeat walk_at "s"); walk_at "e"
        (repeat walk_at "s")
        refine ⟨by show 3 ≤ sizeLine; decide, ?_⟩
        refine ⟨_, in_lst ["count", "sum", "heads"] _, ?_⟩
        walk_at "r"
        walk_at "f"
        (repeat walk_at "s"); walk_at "e"
        (repeat walk_at "s"); walk_at "e"
        walk_at "r"
        walk_at "f"
        (repeat walk_at "s"); walk_at "e"
        (repeat walk_at "s")
        refine ⟨by show 2 ≤ sizeLine; decide, ?_⟩
        refine ⟨_, in_lst ["sort", "stable"] _, ?_⟩
        walk_at "r"
        walk_at "t"
        (repeat walk_at "s"); walk_at "e"
        (repeat walk_at "s"); walk_at "e"
        (repeat walk_at "s")
        exact law_after_sort_run (b := true) hK h hs q
      | false =>
        (repeat walk_at "s")
        refine ⟨by show 1 ≤ sizeLine; decide, ?_⟩
        refine ⟨_, eq_emp _, ?_⟩
        walk_at "r"
        walk_at "f"
        (repeat walk_at "s"); walk_at "e"
        (repeat walk_at "s")
        refine ⟨by show 3 ≤ sizeLine; decide, ?_⟩
        refine ⟨_, in_lst ["count", "sum", "heads"] _, ?_⟩
        walk_at "r"
        walk_at "f"
        (repeat walk_at "s"); walk_at "e"
        (repeat walk_at "s"); walk_at "e"
        walk_at "r"
        walk_at "f"
        (repeat walk_at "s"); walk_at "e"
        (repeat walk_at "s")
        refine ⟨by show 2 ≤ sizeLine; decide, ?_⟩
        refine ⟨_, in_lst ["sort", "stable"] _, ?_⟩
        walk_at "r"
        walk_at "t"
        (repeat walk_at "s"); walk_at "e"
        (repeat walk_at "s"); walk_at "e"
        (repeat walk_at "s")
        exact law_after_sort_run (b := false) hK h hs q
    | cut b i =>
      cases b with
      | true =>
        (repeat walk_at "s")
        refine ⟨by show 1 ≤ sizeLine; decide, ?_⟩
        refine ⟨_, eq_emp _, ?_⟩
        walk_at "r"
        walk_at "f"
        (repeat walk_at "s"); walk_at "e"
        (repeat walk_at "s")
        refine ⟨by show 3 ≤ sizeLine; decide, ?_⟩
        refine ⟨_, in_lst ["count", "sum", "heads"] _, ?_⟩
        walk_at "r"
        walk_at "f"
        (repeat walk_at "s"); walk_at "e"
        (repeat walk_at "s"); walk_at "e"
        walk_at "r"
        walk_at "f"
        (repeat walk_at "s"); walk_at "e"
        (repeat walk_at "s")
        refine ⟨by show 2 ≤ sizeLine; decide, ?_⟩
        refine ⟨_, in_lst ["sort", "stable"] _, ?_⟩
        walk_at "r"
        walk_at "f"
        (repeat walk_at "s")
        walk_at "r"
        (repeat walk_at "s"); walk_at "e"
        (repeat walk_at "s"); walk_at "e"
        walk_at "r"
        walk_at "f"
        walk_at "s"
        exact law_cut_run (b := true) hK hR hY h q
      | false =>
        (repeat walk_at "s")
        refine ⟨by show 1 ≤ sizeLine; decide, ?_⟩
        refine ⟨_, eq_emp _, ?_⟩
        walk_at "r"
        walk_at "f"
        (repeat walk_at "s"); walk_at "e"
        (repeat walk_at "s")
        refine ⟨by show 3 ≤ sizeLine; decide, ?_⟩
        refine ⟨_, in_lst ["count", "sum", "heads"] _, ?_⟩
        walk_at "r"
        walk_at "f"
        (repeat walk_at "s"); walk_at "e"
        (repeat walk_at "s"); walk_at "e"
        walk_at "r"
        walk_at "f"
        (repeat walk_at "s"); walk_at "e"
        (repeat walk_at "s")
        refine ⟨by show 2 ≤ sizeLine; decide, ?_⟩
        refine ⟨_, in_lst ["sort", "stable"] _, ?_⟩
        walk_at "r"
        walk_at "f"
        (repeat walk_at "s")
        walk_at "r"
        (repeat walk_at "s"); walk_at "e"
        (repeat walk_at "s"); walk_at "e"
        walk_at "r"
        walk_at "f"
        walk_at "s"
        exact law_cut_run (b := false) hK hR hY h q
    | col l =>
      (repeat walk_at "s")
      refine ⟨by show 1 ≤ sizeLine; decide, ?_⟩
      refine ⟨_, eq_emp _, ?_⟩
      walk_at "r"
      walk_at "f"
      (repeat walk_at "s"); walk_at "e"
      (repeat walk_at "s")
      refine ⟨by show 3 ≤ sizeLine; decide, ?_⟩
      refine ⟨_, in_lst ["count", "sum", "heads"] _, ?_⟩
      walk_at "r"
      walk_at "f"
      (repeat walk_at "s"); walk_at "e"
      (repeat walk_at "s"); walk_at "e"
      walk_at "r"
      walk_at "f"
      (repeat walk_at "s"); walk_at "e"
      (repeat walk_at "s")
      refine ⟨by show 2 ≤ sizeLine; decide, ?_⟩
      refine ⟨_, in_lst ["sort", "stable"] _, ?_⟩
      walk_at "r"
      walk_at "f"
      (repeat walk_at "s")
      walk_at "r"
      (repeat walk_at "s"); walk_at "e"
      (repeat walk_at "s"); walk_at "e"
      walk_at "r"
      walk_at "t"
      have lk := (show KnP K cs o k m from h).known.length_le
      have := hK.few
      (repeat walk_at "s")
      refine ⟨_, rfl, ?_⟩
      (repeat walk_at "s")
      refine m_lcK k sg sg (fun c => decide (c ∈ l)) ?_
      (repeat walk_at "s")
      refine ⟨_, seq_str _, by rw [Ls_tx], by rw [sizeLine_eq]; omega, fun c hc => ⟨_, rfl, fun m => ?_, fun m => ?_⟩, ?_⟩
      · (repeat walk_at "s"); walk_at "e"
        refine ⟨_, in_sg c (tx l), _, rfl, ?_, rfl⟩
        rw [Ls_tx]
        simp
      · (repeat walk_at "s")
        exact ⟨rfl, rfl⟩
      · refine ⟨_, join_sg (Nat.le_trans (List.length_filter_le _ _) (by omega)), ?_⟩
        (repeat walk_at "s")
        exact ⟨by show 5 ≤ sizeLine; decide, q⟩
    | grp w r =>
      have hw : isOf ["count", "sum", "heads"] (.str w) = true := by
        rcases hs with rfl | rfl | rfl <;> decide +kernel
      (repeat walk_at "s")
      refine ⟨by show 1 ≤ sizeLine; decide, ?_⟩
      refine ⟨_, eq_emp _, ?_⟩
      walk_at "r"
      walk_at "f"
      (repeat walk_at "s")
      refine ⟨_, ix_t0 _ _, ?_⟩
      (repeat walk_at "s")
      refine ⟨by show 3 ≤ sizeLine; decide, ?_⟩
      refine ⟨_, in_lst ["count", "sum", "heads"] _, ?_⟩
      rw [hw]
      walk_at "r"
      walk_at "t"
      (repeat walk_at "s")
      exact q
end
section
variable {n : Nat} {Q : PyData → Nat → Prop} {K : List Nat} {rules : List Rule} {keys : List (List Nat)}
/-- the knowledge ahead of each step and at the end -/
def dervK (K : List Nat) (rules : List Rule) (keys : List (List Nat)) : Kn → List Stp → List Kn
  | q, [] => [q]
  | q, s :: r => q :: dervK K rules keys (aft K rules keys q s) r
theorem ix_lastL {xs : List PyData} (h : xs ≠ []) : eIx (.list xs) (.int (-1)) = some (xs.getLast h) := by
  have hp := List.length_pos_iff.mpr h
  show atI xs (-1) = _
  unfold atI ixN
  rw [if_neg (by decide), if_pos (by omega)]
  show xs[((-1 : Int) + (xs.length : Int)).toNat]? = _
  rw [show ((-1 : Int) + (xs.length : Int)).toNat = xs.length - 1 by omega, List.getLast_eq_getElem]
  exact List.getElem?_eq_getElem _
theorem ix_lastT {xs : List PyData} (h : xs ≠ []) : eIx (.tuple xs) (.int (-1)) = some (xs.getLast h) := ix_lastL h
theorem derv_len : ∀ (q : Kn) (sts : List Stp), (dervK K rules keys q sts).length = sts.length + 1
  | _, [] => rfl
  | q, s :: r => by show (dervK K rules keys _ r).length + 1 = _; rw [derv_len]; rfl
theorem derv_ne (q : Kn) (sts : List Stp) : dervK K rules keys q sts ≠ [] := fun e => by
  have := congrArg List.length e
  rw [derv_len] at this
  cases this
theorem derv_ok (hK : ColsOk K) : ∀ (sts : List Stp) (q : Kn), KnOk K q → (∀ st ∈ sts, StpOk K st) → ∀ kn ∈ dervK K rules keys q sts, KnOk K kn
  | [], q, h1, _, kn, hk => by rw [List.mem_singleton.mp hk]; exact h1
  | s :: r, q, h1, hs, kn, hk => by
    rcases List.mem_cons.mp hk with z | z
    · rw [z]; exact h1
    · exact derv_ok hK r _ (aft_ok hK h1 (hs s List.mem_cons_self)) (fun st h => hs st (List.mem_cons_of_mem _ h)) kn z
theorem derv_at : ∀ (sts : List Stp) (q : Kn) (i : Nat) (hi : i < sts.length), ∃ a, (dervK K rules keys q sts)[i]? = some a ∧ (dervK K rules keys q sts)[i + 1]? = some (aft K rules keys a sts[i])
  | [], _, _, hi => nomatch hi
  | s :: r, q, 0, _ => ⟨q, rfl, by
    show (dervK K rules keys (aft K rules keys q s) r)[0]? = _
    cases r <;> rfl⟩
  | s :: r, q, i + 1, hi => derv_at r (aft K rules keys q s) i (by simpa using hi)
theorem e_start {b : Bool} (e : oneK K rules keys [] = b) : knD (Pu.stK K rules keys) = .tuple [.tuple [], .str "", .str (tx K), .bool true, if b = true then .int 1 else .none] := by
  unfold Pu.stK
  rw [e]
  cases b <;> rfl
theorem start_run (hK : ColsOk K) (hR : RulesOk K rules) (hY : KeysOk K keys) (q : Q (knD (Pu.stK K rules keys)) n) : MD w_start_knowledge [.d (schD K rules keys)] n Q := by
  refine md_def rfl rfl ?_
  unfold t_start_knowledge
  walk_at "s"
  (repeat walk_at "s")
  refine is_unique_run (X := []) hK hR hY (List.nil_sublist _) ?_
  have eo : (keys.any fun k => inB k (clos K rules keys [])) = oneK K rules keys [] := by
    unfold oneK
    rw [show (K.filter fun c => decide (c ∈ ([] : List Nat))) = [] from List.filter_eq_nil_iff.mpr fun c _ => by simp]
  rw [eo]
  walk_at "r"
  refine ⟨fun z => ?_, fun z => ?_⟩
  · rw [e_start z, if_pos rfl] at q
    (repeat walk_at "s")
    refine ⟨Nat.zero_le _, ?_⟩
    (repeat walk_at "s")
    refine ⟨_, ix_t0 _ _, ?_⟩
    (repeat walk_at "s")
    exact ⟨by show 5 ≤ sizeLine; decide, q⟩
  · rw [e_start z, if_neg Bool.false_ne_true] at q
    (repeat walk_at "s")
    refine ⟨Nat.zero_le _, ?_⟩
    (repeat walk_at "s")
    refine ⟨_, ix_t0 _ _, ?_⟩
    (repeat walk_at "s")
    exact ⟨by show 5 ≤ sizeLine; decide, q⟩
theorem derive_run {sts : List Stp} {L : List PyData → Nat → Prop} (hK : ColsOk K) (hR : RulesOk K rules) (hY : KeysOk K keys) (few : sts.length ≤ 1000) (hs : ∀ st ∈ sts, StpOk K st) (q : L ((dervK K rules keys (Pu.stK K rules keys) sts).map knD) n) :
    MDO w_derive [.d (schD K rules keys), .d (.tuple (sts.map stpD))] n Q L := by
  refine mdo_def rfl rfl ?_
  unfold t_derive
  refine o_seq ?_
  (repeat walk_at "s")
  refine start_run hK hR hY ?_
  (repeat walk_at "s")
  refine ⟨by show 1 ≤ sizeLine; decide, ?_⟩
  refine o_seq ?_
  refine n_for ?_
  (repeat walk_at "s")
  refine ⟨_, rfl, fun rest e m => m = n ∧ ∃ (pre : List Kn) (kn : Kn) (post : List Stp) (x3 : Option Sl), rest = post.map stpD ∧ KnOk K kn ∧ (∀ st ∈ post, StpOk K st) ∧ pre ++ dervK K rules keys kn post = dervK K rules keys (Pu.stK K rules keys) sts ∧ e = [some (.d (schD K rules keys)), some (.d (.tuple (sts.map stpD))), some (.l ((pre ++ [kn]).map knD)), x3],
    ⟨rfl, [], Pu.stK K rules keys, sts, none, rfl, stK_ok, hs, rfl, rfl⟩, fun x rest e m hI => ?_, fun e m hI => ?_⟩
  · obtain ⟨rfl, pre, kn, post, x3, er, ok, hp, ed, rfl⟩ := hI
    cases post with
    | nil => cases er
    | cons st post =>
    rw [List.map_cons] at er
    obtain ⟨rfl, rfl⟩ := List.cons.inj er
    have so := hp st List.mem_cons_self
    have el : pre.length + (post.length + 1 + 1) = sts.length + 1 := by
      have := congrArg List.length ed
      rw [List.length_append, derv_len, derv_len] at this
      exact this
    refine ⟨_, rfl, ?_⟩
    refine n_app rfl ?_
    (repeat walk_at "s")
    refine ⟨1, rfl, ?_⟩
    refine ⟨knD kn, ?_, ?_⟩
    · rw [show (-(1 : Int)) = -1 from rfl, ix_lastL (by simp)]
      simp
    (repeat walk_at "s")
    refine knowledge_after_run hK hR hY ok so ?_
    refine ⟨by rw [List.length_map, List.length_append, sizeLine_eq]; simp; omega, rfl, pre ++ [kn], aft K rules keys kn st, post, some (.d (stpD st)), rfl, aft_ok hK ok so, fun s h => hp s (List.mem_cons_of_mem _ h), ?_, ?_⟩
    · rw [← ed, List.append_assoc]
      rfl
    · have em : (pre ++ [kn]).map knD ++ [knD (aft K rules keys kn st)] = (pre ++ [kn] ++ [aft K rules keys kn st]).map knD := by simp
      rw [← em]
      rfl
  · obtain ⟨rfl, pre, kn, post, x3, er, ok, hp, ed, rfl⟩ := hI
    have e0 : post = [] := by cases post with | nil => rfl | cons c r => cases er
    subst e0
    rw [← ed] at q
    exact o_retO rfl q
theorem law_derive_run {sts : List Stp} (hK : ColsOk K) (hR : RulesOk K rules) (hY : KeysOk K keys) (few : sts.length ≤ 1000) (hs : ∀ st ∈ sts, StpOk K st) (q : Q (.list ((dervK K rules keys (Pu.stK K rules keys) sts).map knD)) n) :
    MD w__law_derive [.d (schD K rules keys), .d (.tuple (sts.map stpD))] n Q := by
  refine md_def rfl rfl ?_
  unfold t__law_derive
  walk_at "s"
  (repeat walk_at "s")
  refine ⟨Nat.zero_le _, ?_⟩
  (repeat walk_at "s")
  refine ⟨_, ix_t0 _ _, ?_⟩
  (repeat walk_at "s")
  refine law_is_one_run (X := []) hK hR hY (fun _ z => (nomatch z)) (Nat.zero_le _) ?_
  walk_at "r"
  have loop : ∀ {B C : En → Nat → Prop}, MS (sSeq (sFor (wSeq (wVal 1)) (.nm 3) (sApp 2 (wCall w__law_after (wAName 0 (wACons (wOp pIx (wVar 2) (wNeg (wC (.int 1)))) (wAName 3 wANil)))))) (sRetN 2))
      [some (.d (schD K rules keys)), some (.d (.tuple (sts.map stpD))), some (.l [knD (Pu.stK K rules keys)]), none] n (fun _ m => Q .none m) Q B C := by
    intro B C
    walk_at "s"
    refine n_for ?_
    (repeat walk_at "s")
    refine ⟨_, rfl, fun rest e m => m = n ∧ ∃ (pre : List Kn) (kn : Kn) (post : List Stp) (x3 : Option Sl), rest = post.map stpD ∧ KnOk K kn ∧ (∀ st ∈ post, StpOk K st) ∧ pre ++ dervK K rules keys kn post = dervK K rules keys (Pu.stK K rules keys) sts ∧ e = [some (.d (schD K rules keys)), some (.d (.tuple (sts.map stpD))), some (.l ((pre ++ [kn]).map knD)), x3],
      ⟨rfl, [], Pu.stK K rules keys, sts, none, rfl, stK_ok, hs, rfl, rfl⟩, fun x rest e m hI => ?_, fun e m hI => ?_⟩
    · obtain ⟨rfl, pre, kn, post, x3, er, ok, hp, ed, rfl⟩ := hI
      cases post with
      | nil => cases er
      | cons st post =>
      rw [List.map_cons] at er
      obtain ⟨rfl, rfl⟩ := List.cons.inj er
      have so := hp st List.mem_cons_self
      have el : pre.length + (post.length + 1 + 1) = sts.length + 1 := by
        have := congrArg List.length ed
        rw [List.length_append, derv_len, derv_len] at this
        exact this
      refine ⟨_, rfl, ?_⟩
      refine n_app rfl ?_
      (repeat walk_at "s")
      refine ⟨1, rfl, ?_⟩
      refine ⟨knD kn, ?_, ?_⟩
      · rw [show (-(1 : Int)) = -1 from rfl, ix_lastL (by simp)]
        simp
      (repeat walk_at "s")
      refine law_after_run hK hR hY ok so ?_
      refine ⟨by rw [List.length_map, List.length_append, sizeLine_eq]; simp; omega, rfl, pre ++ [kn], aft K rules keys kn st, post, some (.d (stpD st)), rfl, aft_ok hK ok so, fun s h => hp s (List.mem_cons_of_mem _ h), ?_, ?_⟩
      · rw [← ed, List.append_assoc]
        rfl
      · have em : (pre ++ [kn]).map knD ++ [knD (aft K rules keys kn st)] = (pre ++ [kn] ++ [aft K rules keys kn st]).map knD := by simp
        rw [← em]
        rfl
    · obtain ⟨rfl, pre, kn, post, x3, er, ok, hp, ed, rfl⟩ := hI
      have e0 : post = [] := by cases post with | nil => rfl | cons c r => cases er
      subst e0
      rw [← ed] at q
      exact n_retN (.inr ⟨_, rfl, rfl⟩) q
  have e1 := fun {b : Bool} (e : oneK K rules keys [] = b) => e_start e
  refine ⟨fun z => ?_, fun z => ?_⟩
  · (repeat walk_at "s")
    have e2 := e1 z
    rw [if_pos rfl] at e2
    refine ⟨by show 5 ≤ sizeLine; decide, ?_⟩
    rw [← e2]
    walk_at "s"
    exact ⟨by show 1 ≤ sizeLine; decide, loop⟩
  · (repeat walk_at "s")
    have e2 := e1 z
    rw [if_neg Bool.false_ne_true] at e2
    refine ⟨by show 5 ≤ sizeLine; decide, ?_⟩
    rw [← e2]
    walk_at "s"
    exact ⟨by show 1 ≤ sizeLine; decide, loop⟩
theorem keptA {st : Stp} (so : StpOk K st) : ∃ a r, stpD st = .tuple (.str a :: r) ∧ ((isS "columns" (.str a) = true ∧ r = [.str (tx (keptL K st))]) ∨ (isS "columns" (.str a) = false ∧ keptL K st = K)) := by
  cases st with
  | whr c v => exact ⟨_, _, rfl, .inr ⟨by decide +kernel, rfl⟩⟩
  | srt b p => cases b <;> exact ⟨_, _, rfl, .inr ⟨by decide +kernel, rfl⟩⟩
  | cut b i => cases b <;> exact ⟨_, _, rfl, .inr ⟨by decide +kernel, rfl⟩⟩
  | col l => exact ⟨_, _, rfl, .inl ⟨by decide +kernel, rfl⟩⟩
  | grp w r => exact ⟨_, _, rfl, .inr ⟨by rcases so with rfl | rfl | rfl <;> decide +kernel, rfl⟩⟩
theorem kept_after_run {st : Stp} {K0 : List Nat} (so : StpOk K0 st) (q : Q (.str (tx (keptL K st))) n) : MD w_kept_after [.d (.str (tx K)), .d (stpD st)] n Q := by
  obtain ⟨a, r, e, h⟩ := keptA (K := K0) so
  have hk : keptL K0 st = K0 → keptL K st = K ∨ ∃ l, st = .col l := fun _ => by cases st <;> first | exact .inl rfl | exact .inr ⟨_, rfl⟩
  refine md_def rfl rfl ?_
  unfold t_kept_after
  rw [e]
  (repeat walk_at "s"); walk_at "e"
  (repeat walk_at "s"); walk_at "e"
  rcases h with ⟨h1, h2⟩ | ⟨h1, h2⟩
  · rw [h1]
    walk_at "r"
    walk_at "t"
    have e3 : keptL K0 st = keptL K st := by
      cases st with
      | col l => rfl
      | whr c v => exfalso; cases e; revert h1; decide +kernel
      | srt b p => exfalso; cases b <;> (cases e; revert h1; decide +kernel)
      | cut b p => exfalso; cases b <;> (cases e; revert h1; decide +kernel)
      | grp w r =>
        exfalso
        cases e
        rcases so with rfl | rfl | rfl <;> (revert h1; decide +kernel)
    subst h2
    rw [← e3] at q
    (repeat walk_at "s")
    exact ⟨_, ix_t1 _ _ _, q⟩
  · rw [h1]
    walk_at "r"
    walk_at "f"
    (repeat walk_at "s")
    have e3 : keptL K st = K := by
      cases st with
      | col l => exfalso; cases e; revert h1; decide +kernel
      | _ => rfl
    rw [e3] at q
    exact q
theorem kept_columns_run {sts : List Stp} (hs : ∀ st ∈ sts, StpOk K st) (q : Q (.str (tx (keptR K sts))) n) : MD w_kept_columns [.d (schD K rules keys), .d (.tuple (sts.map stpD))] n Q := by
  refine md_def rfl rfl ?_
  unfold t_kept_columns
  walk_at "s"
  (repeat walk_at "s")
  refine ⟨_, ix_t0 _ _, ?_⟩
  walk_at "s"
  refine n_for ?_
  (repeat walk_at "s")
  refine ⟨_, rfl, fun rest e m => m = n ∧ ∃ (l : List Nat) (post : List Stp) (x3 : Option Sl), rest = post.map stpD ∧ (∀ st ∈ post, StpOk K st) ∧ keptR l post = keptR K sts ∧ e = [some (.d (schD K rules keys)), some (.d (.tuple (sts.map stpD))), some (.d (.str (tx l))), x3],
    ⟨rfl, K, sts, none, rfl, hs, rfl, rfl⟩, fun x rest e m hI => ?_, fun e m hI => ?_⟩
  · obtain ⟨rfl, l, post, x3, er, hp, ek, rfl⟩ := hI
    cases post with
    | nil => cases er
    | cons st post =>
    rw [List.map_cons] at er
    obtain ⟨rfl, rfl⟩ := List.cons.inj er
    refine ⟨_, rfl, ?_⟩
    (repeat walk_at "s")
    refine kept_after_run (K0 := K) (hp st List.mem_cons_self) ?_
    exact ⟨rfl, keptL l st, post, _, rfl, fun s h => hp s (List.mem_cons_of_mem _ h), ek, rfl⟩
  · obtain ⟨rfl, l, post, x3, er, hp, ek, rfl⟩ := hI
    have e0 : post = [] := by cases post with | nil => rfl | cons c r => cases er
    subst e0
    (repeat walk_at "s")
    rw [← ek] at q
    exact q
theorem law_kept_run {sts : List Stp} (hs : ∀ st ∈ sts, StpOk K st) (q : Q (.str (tx (keptR K sts))) n) : MD w__law_kept [.d (schD K rules keys), .d (.tuple (sts.map stpD))] n Q := by
  refine md_def rfl rfl ?_
  unfold t__law_kept
  walk_at "s"
  (repeat walk_at "s")
  refine ⟨_, ix_t0 _ _, ?_⟩
  walk_at "s"
  refine n_for ?_
  (repeat walk_at "s")
  refine ⟨_, rfl, fun rest e m => m = n ∧ ∃ (l : List Nat) (post : List Stp) (x3 : Option Sl), rest = post.map stpD ∧ (∀ st ∈ post, StpOk K st) ∧ keptR l post = keptR K sts ∧ e = [some (.d (schD K rules keys)), some (.d (.tuple (sts.map stpD))), some (.d (.str (tx l))), x3],
    ⟨rfl, K, sts, none, rfl, hs, rfl, rfl⟩, fun x rest e m hI => ?_, fun e m hI => ?_⟩
  · obtain ⟨rfl, l, post, x3, er, hp, ek, rfl⟩ := hI
    cases post with
    | nil => cases er
    | cons st post =>
    rw [List.map_cons] at er
    obtain ⟨rfl, rfl⟩ := List.cons.inj er
    have so := hp st List.mem_cons_self
    refine ⟨_, rfl, ?_⟩
    walk_at "s"
    have go : ∀ {Q' : PyData → Nat → Prop}, Q' (.str (tx (keptL l st))) m → ME (wIfE (wTt (wOp pEq2 (wOp pIx (wVar 3) (wC (.int 0))) (wC (.str "columns")))) (wOp pIx (wVar 3) (wC (.int 1))) (wVal 2)) [some (.d (schD K rules keys)), some (.d (.tuple (sts.map stpD))), some (.d (.str (tx l))), some (.d (stpD st))] m Q' := by
      intro Q' q'
      walk_at "s"; walk_at "s"; walk_at "s"; walk_at "s"; walk_at "s"; walk_at "s"
      cases st with
      | col p =>
        walk_at "e"
        (repeat walk_at "s"); walk_at "e"
        walk_at "r"
        walk_at "t"
        (repeat walk_at "s")
        exact ⟨_, ix_t1 _ _ _, q'⟩
      | srt b p => cases b <;> (walk_at "e"; (repeat walk_at "s"); walk_at "e"; walk_at "r"; walk_at "f"; (repeat walk_at "s"); exact q')
      | cut b p => cases b <;> (walk_at "e"; (repeat walk_at "s"); walk_at "e"; walk_at "r"; walk_at "f"; (repeat walk_at "s"); exact q')
      | whr c v => walk_at "e"; (repeat walk_at "s"); walk_at "e"; walk_at "r"; walk_at "f"; (repeat walk_at "s"); exact q'
      | grp w r =>
        refine ⟨_, ix_t0 _ _, ?_⟩
        (repeat walk_at "s"); walk_at "e"
        rw [show isS "columns" (.str w) = false by rcases so with rfl | rfl | rfl <;> decide +kernel]
        walk_at "r"; walk_at "f"; (repeat walk_at "s"); exact q'
    refine go ?_
    exact ⟨rfl, keptL l st, post, _, rfl, fun s h => hp s (List.mem_cons_of_mem _ h), ek, rfl⟩
  · obtain ⟨rfl, l, post, x3, er, hp, ek, rfl⟩ := hI
    have e0 : post = [] := by cases post with | nil => rfl | cons c r => cases er
    subst e0
    (repeat walk_at "s")
    rw [← ek] at q
    exact q
end
def fxK (K : List Nat) (rules : List Rule) (keys : List (List Nat)) (g : List Nat) (cs : CsT) (o : List Nat) : List Nat := clos K rules keys (K.filter fun c => decide (c ∈ o ++ colsC cs ++ g))
def stlB (K : List Nat) (rules : List Rule) (keys : List (List Nat)) (l : List Nat) (f : Fin) : Kn → Bool
  | .emp => true
  | .kn cs o k c m => c && match f with
    | .non => inB l k && (decide (m = some 1) || inB l (fxK K rules keys [] cs o))
    | .cnt g => inB g k
    | .sum g d => inB (g ++ [d]) k
    | .hds g => inB l k && (decide (m = some 1) || inB l (fxK K rules keys g cs o))
theorem eq_most (m : Option Int) : eEq (mostD m) (.int 1) = some (.bool (decide (m = some 1))) := by
  cases m with
  | none => rfl
  | some i =>
    show eEq (.int i) (.int 1) = _
    rw [Pu.eq_int]
    exact congrArg (fun b => some (PyData.bool b)) (decide_eq_decide.mpr ⟨fun h => by rw [h], fun h => Option.some.inj h⟩)
theorem inB_filter (l k x : List Nat) : inB l (k.filter fun c => decide (c ∈ x)) = (inB l k && inB l x) := by
  rw [Bool.eq_iff_iff, Bool.and_eq_true, inB_iff, inB_iff, inB_iff]
  simp only [List.mem_filter, decide_eq_true_eq]
  exact ⟨fun h => ⟨fun c hc => (h c hc).1, fun c hc => (h c hc).2⟩, fun h c hc => ⟨h.1 c hc, h.2 c hc⟩⟩
theorem inB_snoc (g k : List Nat) (d : Nat) : inB (g ++ [d]) k = (inB g k && decide (d ∈ k)) := by
  unfold inB
  rw [List.all_append]
  simp
theorem inB_sub {g l k : List Nat} (s : g.Sublist l) (h : inB l k = true) : inB g k = true := inB_iff.mpr fun c hc => inB_iff.mp h c (s.subset hc)
theorem fin_ok {K : List Nat} (f : Fin) : ∀ st ∈ finS f, StpOk K st := fun st hs => by
  cases f with
  | non => exact nomatch hs
  | cnt g => rw [List.mem_singleton.mp hs]; exact .inl rfl
  | sum g c => rw [List.mem_singleton.mp hs]; exact .inr (.inl rfl)
  | hds g => rw [List.mem_singleton.mp hs]; exact .inr (.inr rfl)
theorem kept_fin {K : List Nat} (sts : List Stp) (f : Fin) : keptR K (sts ++ finS f) = keptR K sts := by
  cases f with
  | non => rw [show finS .non = [] from rfl, List.append_nil]
  | cnt g => exact kept_snoc
  | sum g c => exact kept_snoc
  | hds g => exact kept_snoc
theorem head_ng {K : List Nat} {st : Stp} (so : StpOk K st) (ng : isG st = false) : ∃ w r, stpD st = .tuple (.str w :: r) ∧ isOf ["count", "sum", "heads"] (.str w) = false ∧ isS "count" (.str w) = false ∧ isS "sum" (.str w) = false ∧ isS "heads" (.str w) = false := by
  cases st with
  | whr c v => exact ⟨_, _, rfl, by decide +kernel, by decide +kernel, by decide +kernel, by decide +kernel⟩
  | srt b p => cases b <;> exact ⟨_, _, rfl, by decide +kernel, by decide +kernel, by decide +kernel, by decide +kernel⟩
  | cut b i => cases b <;> exact ⟨_, _, rfl, by decide +kernel, by decide +kernel, by decide +kernel, by decide +kernel⟩
  | col l => exact ⟨_, _, rfl, by decide +kernel, by decide +kernel, by decide +kernel, by decide +kernel⟩
  | grp w r => cases ng
/-- the last step -/
theorem last_ng {K : List Nat} {sts : List Stp} (hs : ∀ st ∈ sts, StpOk K st) (ng : ∀ st ∈ sts, isG st = false) (ne : sts ≠ []) : ∃ w r, eIx (.tuple (sts.map stpD)) (.int (-1)) = some (.tuple (.str w :: r)) ∧ isOf ["count", "sum", "heads"] (.str w) = false ∧ isS "count" (.str w) = false ∧ isS "sum" (.str w) = false ∧ isS "heads" (.str w) = false := by
  have hl := List.getLast_mem ne
  obtain ⟨w, r, e, h⟩ := head_ng (hs _ hl) (ng _ hl)
  refine ⟨w, r, ?_, h⟩
  rw [ix_lastT (by simpa using ne), List.getLast_map]
  exact congrArg some e
theorem ix_snocT (xs : List PyData) (d : PyData) : eIx (.tuple (xs ++ [d])) (.int (-1)) = some d := by
  rw [ix_lastT (by simp)]
  simp
section
variable {n : Nat} {Q : PyData → Nat → Prop} {K X : List Nat} {rules : List Rule} {keys : List (List Nat)} {cs : CsT} {o k : List Nat} {c : Bool} {m : Option Int} {sts : List Stp}
theorem determinedG_run {g : List Nat} (hK : ColsOk K) (hR : RulesOk K rules) (hY : KeysOk K keys) (h : KnP K cs o k m) (lg : g.length ≤ 100) (q : Q (.str (tx (fxK K rules keys g cs o))) n) :
    MD w_determined [.d (schD K rules keys), .d (knD (.kn cs o k c m)), .d (.str (tx g))] n Q := by
  have hK5 := hK.few
  have lo : o.length ≤ 5 := Nat.le_trans (nodup_len h.ond h.osub) hK5
  have few := h.cs.few hK
  refine md_def rfl rfl ?_
  unfold t_determined
  walk_at "s"
  (repeat walk_at "s")
  refine ⟨_, rfl, _, slT_to _ 2, ?_⟩
  walk_at "r"
  (repeat walk_at "s")
  refine ⟨_, rfl, ?_⟩
  (repeat walk_at "s")
  refine m_lcM cs cD (fun p => sg p.1) ?_
  (repeat walk_at "s")
  refine ⟨_, rfl, rfl, by rw [sizeLine_eq]; omega, fun p hp => ⟨_, rfl, fun m => ?_⟩, ?_⟩
  · (repeat walk_at "s")
    exact ⟨rfl, rfl⟩
  · have e : (cs.map fun p => sg p.1) = (colsC cs).map sg := by unfold colsC; rw [List.map_map]; rfl
    have lc : (colsC cs).length = cs.length := cols_len
    rw [e]
    refine ⟨_, join_sg (by omega), ?_⟩
    (repeat walk_at "s")
    refine ⟨_, add_str (by rw [Ls_tx, Ls_tx]; omega), ?_⟩
    rw [Ls_tx, Ls_tx]
    (repeat walk_at "s")
    refine ⟨_, add_str (by rw [Ls_tx, Ls_tx, List.length_append]; omega), ?_⟩
    rw [Ls_tx, Ls_tx]
    (repeat walk_at "s")
    refine ⟨_, ix_t0 _ _, ?_⟩
    (repeat walk_at "s")
    refine common_run (by omega) ?_
    (repeat walk_at "s")
    refine closure_run hK hR hY List.filter_sublist ?_
    have e2 : (K.filter fun c => decide (c ∈ colsC cs ++ o ++ g)) = K.filter fun c => decide (c ∈ o ++ colsC cs ++ g) := List.filter_congr fun c _ => by simp [or_assoc, or_left_comm]
    rw [e2]
    exact q
theorem settles_tail {g : List Nat} {w : Str} {f : Fin} {x7 x8 : Option Sl} {N : En → Nat → Prop} {B C : En → Nat → Prop} (hK : ColsOk K) (hR : RulesOk K rules) (hY : KeysOk K keys) (h : KnP K cs o k m) (hs : ∀ st ∈ sts, StpOk K st) (hk : ColsOk (keptR K sts)) (lg : g.length ≤ 100)
    (hw : (isS "heads" (.str w) = true ∧ ∃ xs a, (sts ++ finS f).map stpD = xs ++ [.tuple [a, .str (tx g)]]) ∨ (isS "heads" (.str w) = false ∧ g = []))
    (q : Q (.bool (inB (keptR K sts) k && (decide (m = some 1) || inB (keptR K sts) (fxK K rules keys g cs o)))) n) :
    MS (sSeq (sSet (wCall w_kept_columns (wAName 0 (wAName 1 wANil))) 7) (sSeq (sIf (wNotT (wTru (wCall w_contains (wAName 3 (wAName 7 wANil))))) (sRet (wC (.bool false))) sNext) (sSeq (sSet (wIfE (wTt (wOp pEq2 (wVar 6) (wC (.str "heads")))) (wOp pIx (wOp pIx (wVar 1) (wNeg (wC (.int 1)))) (wC (.int 1))) (wC (.str ""))) 8) (sRet (wOrE (wOp pEq2 (wVar 5) (wC (.int 1))) (wCall w_contains (wACons (wCall w_determined (wAName 0 (wAName 2 (wAName 8 wANil)))) (wAName 7 wANil)))))))) [some (.d (schD K rules keys)), some (.d (.tuple ((sts ++ finS f).map stpD))), some (.d (knD (.kn cs o k c m))), some (.d (.str (tx k))), some (.d (.bool c)), some (.d (mostD m)), some (.d (.str w)), x7, x8] n N Q B C := by
  have lk := hk.few
  walk_at "s"
  (repeat walk_at "s")
  refine kept_columns_run (fun st hst => (List.mem_append.mp hst).elim (hs st) (fin_ok f st)) ?_
  rw [kept_fin]
  (repeat walk_at "s")
  refine contains_run (by omega) ?_
  walk_at "r"
  refine ⟨fun z => ?_, fun z => ?_⟩
  · rw [show inB (keptR K sts) k = false by simpa using z, Bool.false_and] at q
    (repeat walk_at "s")
    exact q
  · rw [show inB (keptR K sts) k = true by simpa using z, Bool.true_and] at q
    walk_at "s"
    walk_at "s"
    have last : ∀ {B C : En → Nat → Prop}, MS (sRet (wOrE (wOp pEq2 (wVar 5) (wC (.int 1))) (wCall w_contains (wACons (wCall w_determined (wAName 0 (wAName 2 (wAName 8 wANil)))) (wAName 7 wANil))))) [some (.d (schD K rules keys)), some (.d (.tuple ((sts ++ finS f).map stpD))), some (.d (knD (.kn cs o k c m))), some (.d (.str (tx k))), some (.d (.bool c)), some (.d (mostD m)), some (.d (.str w)), some (.d (.str (tx (keptR K sts)))), some (.d (.str (tx g)))] n N Q B C := by
      intro B C
      (repeat walk_at "s")
      refine ⟨_, eq_most m, ?_⟩
      walk_at "r"
      refine ⟨fun z => ?_, fun z => ?_⟩
      · rw [z, Bool.true_or] at q
        rw [z]
        exact q
      · rw [z, Bool.false_or] at q
        (repeat walk_at "s")
        refine determinedG_run hK hR hY h lg ?_
        (repeat walk_at "s")
        exact contains_run (by omega) q
    (repeat walk_at "s")
    refine ⟨_, eq_str _ _, ?_⟩
    walk_at "r"
    rcases hw with ⟨hw, xs, a, ex⟩ | ⟨hw, rfl⟩
    · rw [hw]
      walk_at "t"
      rw [ex]
      rw [ex] at last
      (repeat walk_at "s")
      refine ⟨1, rfl, ?_⟩
      refine ⟨_, ix_snocT _ _, ?_⟩
      (repeat walk_at "s")
      refine ⟨_, ix_t1 _ _ _, ?_⟩
      exact last
    · rw [hw]
      walk_at "f"
      walk_at "s"
      exact last
theorem settles_run {f : Fin} {kn : Kn} (hK : ColsOk K) (hR : RulesOk K rules) (hY : KeysOk K keys) (ok : KnOk K kn) (hs : ∀ st ∈ sts, StpOk K st) (ng : ∀ st ∈ sts, isG st = false) (fo : FinOk (keptR K sts) f) (hk : ColsOk (keptR K sts)) (q : Q (.bool (stlB K rules keys (keptR K sts) f kn)) n) :
    MD w_settles [.d (schD K rules keys), .d (.tuple ((sts ++ finS f).map stpD)), .d (knD kn)] n Q := by
  have lk := hk.few
  refine md_def rfl rfl ?_
  unfold t_settles
  walk_at "s"
  (repeat walk_at "s")
  refine ⟨_, eq_emp _, ?_⟩
  walk_at "r"
  cases kn with
  | emp =>
    walk_at "t"
    (repeat walk_at "s")
    exact q
  | kn cs o k c m =>
    have h : KnP K cs o k m := ok
    walk_at "f"
    (repeat walk_at "s")
    refine ⟨_, rfl, ?_⟩
    (repeat walk_at "s")
    refine ⟨_, slT_from _ 2, ?_⟩
    walk_at "r"
    walk_at "s"
    (repeat walk_at "s"); walk_at "r"
    cases c with
    | false =>
      walk_at "t"
      (repeat walk_at "s")
      exact q
    | true =>
      walk_at "f"
      walk_at "s"
      walk_at "s"
      cases f with
      | non =>
        have rest : ∀ (w : Str), isS "count" (.str w) = false → isS "sum" (.str w) = false → isS "heads" (.str w) = false → ∀ {B C : En → Nat → Prop}, MS (sSeq (sIf (wTt (wOp pEq2 (wVar 6) (wC (.str "count")))) (sRet (wCall w_contains (wAName 3 (wACons (wOp pIx (wOp pIx (wVar 1) (wNeg (wC (.int 1)))) (wC (.int 1))) wANil)))) sNext) (sSeq (sIf (wTt (wOp pEq2 (wVar 6) (wC (.str "sum")))) (sRet (wCall w_contains (wAName 3 (wACons (wOp pAdd (wOp pIx (wOp pIx (wVar 1) (wNeg (wC (.int 1)))) (wC (.int 1))) (wOp pIx (wOp pIx (wVar 1) (wNeg (wC (.int 1)))) (wC (.int 2)))) wANil)))) sNext) (sSeq (sSet (wCall w_kept_columns (wAName 0 (wAName 1 wANil))) 7) (sSeq (sIf (wNotT (wTru (wCall w_contains (wAName 3 (wAName 7 wANil))))) (sRet (wC (.bool false))) sNext) (sSeq (sSet (wIfE (wTt (wOp pEq2 (wVar 6) (wC (.str "heads")))) (wOp pIx (wOp pIx (wVar 1) (wNeg (wC (.int 1)))) (wC (.int 1))) (wC (.str ""))) 8) (sRet (wOrE (wOp pEq2 (wVar 5) (wC (.int 1))) (wCall w_contains (wACons (wCall w_determined (wAName 0 (wAName 2 (wAName 8 wANil)))) (wAName 7 wANil))))))))))
            [some (.d (schD K rules keys)), some (.d (.tuple ((sts ++ finS .non).map stpD))), some (.d (knD (.kn cs o k true m))), some (.d (.str (tx k))), some (.d (.bool true)), some (.d (mostD m)), some (.d (.str w)), none, none] n (fun _ m => Q .none m) Q B C := by
          intro w w1 w2 w3 B C
          walk_at "s"
          (repeat walk_at "s")
          refine ⟨_, eq_str _ _, ?_⟩
          rw [w1]
          walk_at "r"; walk_at "f"
          walk_at "s"
          (repeat walk_at "s")
          refine ⟨_, eq_str _ _, ?_⟩
          rw [w2]
          walk_at "r"; walk_at "f"
          walk_at "s"
          exact settles_tail (g := []) hK hR hY h hs hk (Nat.zero_le _) (.inr ⟨w3, rfl⟩) q
        walk_at "s"
        (repeat walk_at "s"); walk_at "r"
        have er : (sts ++ finS .non).map stpD = sts.map stpD := by rw [show finS .non = [] from rfl, List.append_nil]
        by_cases ne : sts = []
        · subst ne
          walk_at "f"
          walk_at "s"
          exact rest (Str.ofString "") (by decide +kernel) (by decide +kernel) (by decide +kernel)
        · obtain ⟨w, r, ei, _, w1, w2, w3⟩ := last_ng hs ng ne
          refine ⟨fun _ => ?_, fun z => ?_⟩
          · (repeat walk_at "s")
            refine ⟨1, rfl, ?_⟩
            refine ⟨_, (congrArg (fun l => eIx (.tuple l) (.int (-1))) er).trans ei, ?_⟩
            (repeat walk_at "s")
            refine ⟨_, ix_t0 _ _, ?_⟩
            exact rest w w1 w2 w3
          · exfalso
            rw [er] at z
            simp at z
            exact ne z
      | cnt g =>
        have g5 := (show g.Sublist (keptR K sts) from fo).length_le
        have er : (sts ++ finS (.cnt g)).map stpD = sts.map stpD ++ [.tuple [.str "count", .str (tx g)]] := by rw [List.map_append]; rfl
        rw [er]
        walk_at "s"
        (repeat walk_at "s"); walk_at "r"
        refine ⟨fun _ => ?_, fun z => by simp at z⟩
        (repeat walk_at "s")
        refine ⟨1, rfl, ?_⟩
        refine ⟨_, ix_snocT _ _, ?_⟩
        (repeat walk_at "s")
        refine ⟨_, ix_t0 _ _, ?_⟩
        walk_at "s"
        (repeat walk_at "s"); walk_at "e"
        walk_at "r"; walk_at "t"
        (repeat walk_at "s")
        refine ⟨1, rfl, ?_⟩
        refine ⟨_, ix_snocT _ _, ?_⟩
        (repeat walk_at "s")
        refine ⟨_, ix_t1 _ _ _, ?_⟩
        (repeat walk_at "s")
        exact contains_run (by omega) q
      | sum g d =>
        have g5 := (show g.Sublist (keptR K sts) from fo.1).length_le
        have er : (sts ++ finS (.sum g d)).map stpD = sts.map stpD ++ [.tuple [.str "sum", .str (tx g), sg d]] := by rw [List.map_append]; rfl
        rw [er]
        walk_at "s"
        (repeat walk_at "s"); walk_at "r"
        refine ⟨fun _ => ?_, fun z => by simp at z⟩
        (repeat walk_at "s")
        refine ⟨1, rfl, ?_⟩
        refine ⟨_, ix_snocT _ _, ?_⟩
        (repeat walk_at "s")
        refine ⟨_, ix_t0 _ _, ?_⟩
        walk_at "s"
        (repeat walk_at "s"); walk_at "e"
        walk_at "r"; walk_at "f"
        walk_at "s"
        walk_at "s"
        (repeat walk_at "s"); walk_at "e"
        walk_at "r"; walk_at "t"
        (repeat walk_at "s")
        refine ⟨1, rfl, ?_⟩
        refine ⟨_, ix_snocT _ _, ?_⟩
        (repeat walk_at "s")
        refine ⟨_, ix_t1 _ _ _, ?_⟩
        (repeat walk_at "s")
        refine ⟨1, rfl, ?_⟩
        refine ⟨_, ix_snocT _ _, ?_⟩
        (repeat walk_at "s")
        refine ⟨_, ix_t2 _ _ _ _, ?_⟩
        refine ⟨_, add_str (t := (⟨#[d]⟩ : Str)) (by rw [Ls_tx]; show _ + 1 ≤ _; omega), ?_⟩
        (repeat walk_at "s")
        refine contains_run (by rw [List.length_append, Ls_tx]; show _ + 1 ≤ _; omega) ?_
        rw [Ls_tx]
        exact q
      | hds g =>
        have g5 := (show g.Sublist (keptR K sts) from fo).length_le
        have er : (sts ++ finS (.hds g)).map stpD = sts.map stpD ++ [.tuple [.str "heads", .str (tx g)]] := by rw [List.map_append]; rfl
        have tail := fun {N : En → Nat → Prop} {B C : En → Nat → Prop} (x7 x8 : Option Sl) => settles_tail (x7 := x7) (x8 := x8) (N := N) (B := B) (C := C) (f := .hds g) (w := Str.ofString "heads") (c := true) hK hR hY h hs hk (show g.length ≤ 100 by omega) (.inl ⟨by decide +kernel, _, _, er⟩) q
        rw [er] at tail
        rw [er]
        walk_at "s"
        (repeat walk_at "s"); walk_at "r"
        refine ⟨fun _ => ?_, fun z => by simp at z⟩
        (repeat walk_at "s")
        refine ⟨1, rfl, ?_⟩
        refine ⟨_, ix_snocT _ _, ?_⟩
        (repeat walk_at "s")
        refine ⟨_, ix_t0 _ _, ?_⟩
        walk_at "s"
        (repeat walk_at "s"); walk_at "e"
        walk_at "r"; walk_at "f"
        walk_at "s"
        walk_at "s"
        (repeat walk_at "s"); walk_at "e"
        walk_at "r"; walk_at "f"
        walk_at "s"
        exact tail _ _
theorem is_settled_run {f : Fin} (hK : ColsOk K) (hR : RulesOk K rules) (hY : KeysOk K keys) (few : sts.length ≤ 500) (hs : ∀ st ∈ sts, StpOk K st) (ng : ∀ st ∈ sts, isG st = false) (fo : FinOk (keptR K sts) f) (hk : ColsOk (keptR K sts))
    (q : Q (.bool (stlB K rules keys (keptR K sts) f ((dervK K rules keys (Pu.stK K rules keys) (sts ++ finS f)).getLast (derv_ne _ _)))) n) :
    MD w_is_settled [.d (schD K rules keys), .d (.tuple ((sts ++ finS f).map stpD))] n Q := by
  have lf : (finS f).length ≤ 1 := by cases f <;> simp [finS]
  have hs2 : ∀ st ∈ sts ++ finS f, StpOk K st := fun st hst => (List.mem_append.mp hst).elim (hs st) (fin_ok f st)
  refine md_def rfl rfl ?_
  unfold t_is_settled
  (repeat walk_at "s")
  refine md_fz ?_
  refine derive_run hK hR hY (by rw [List.length_append]; omega) hs2 ?_
  (repeat walk_at "s")
  refine ⟨1, rfl, ?_⟩
  refine ⟨_, ix_lastL (by simpa using derv_ne _ _), ?_⟩
  rw [List.getLast_map]
  (repeat walk_at "s")
  exact settles_run hK hR hY (derv_ok hK _ _ stK_ok hs2 _ (List.getLast_mem _)) hs ng fo hk q
end
section
variable {n : Nat} {Q : PyData → Nat → Prop} {K X : List Nat} {rules : List Rule} {keys : List (List Nat)} {cs : CsT} {o k : List Nat} {c : Bool} {m : Option Int} {sts : List Stp} {part fd : List Nat}
theorem law_within_run (hl : part.length ≤ 1000) (q : Q (.bool (inB part fd)) n) : MD w__law_within [.d (.str (tx part)), .d (.str (tx fd))] n Q := by
  refine md_def rfl rfl ?_
  unfold t__law_within
  walk_at "s"; walk_at "s"; walk_at "s"
  refine m_lcK part sg sg (fun c => !decide (c ∈ fd)) ?_
  (repeat walk_at "s")
  refine ⟨_, seq_str _, by rw [Ls_tx], by rw [sizeLine_eq]; omega, fun c hc => ⟨_, rfl, fun m => ?_, fun m => ?_⟩, ?_⟩
  · (repeat walk_at "s")
    refine ⟨_, in_sg c (tx fd), _, rfl, ?_, rfl⟩
    rw [Ls_tx]
    simp
  · (repeat walk_at "s")
    exact ⟨rfl, rfl⟩
  · (repeat walk_at "s")
    refine ⟨Nat.zero_le _, _, eq_nilL _, ?_⟩
    have e : inB part fd = ((part.filter fun c => !decide (c ∈ fd)).map sg).isEmpty := by
      rw [List.isEmpty_map, Bool.eq_iff_iff, List.isEmpty_iff, List.filter_eq_nil_iff, inB_iff]
      simp
    rw [e] at q
    exact q
theorem plc_fx : plcK K rules keys cs o k = k.filter fun c => decide (c ∈ fxK K rules keys [] cs o) := by
  unfold plcK fxK
  rw [List.append_nil]
theorem law_end_run {x8 : List Nat} {x9 x10 : Option Sl} {xs : List PyData} {N : En → Nat → Prop} {B C : En → Nat → Prop} (hK : ColsOk K) (hR : RulesOk K rules) (hY : KeysOk K keys) (h : KnP K cs o k m) (l8 : x8.length ≤ 5)
    (q : Q (.bool (inB x8 k && (decide (m = some 1) || inB x8 (fxK K rules keys [] cs o)))) n) :
    MS (sRet (wOrE (wCall w__law_within (wAName 8 (wACons (wCall w__law_placed (wAName 0 (wAName 2 wANil))) wANil))) (wAndE (wOp pEq2 (wVar 7) (wC (.int 1))) (wCall w__law_within (wAName 8 (wAName 5 wANil)))))) [some (.d (schD K rules keys)), some (.d (.tuple xs)), some (.d (knD (.kn cs o k c m))), some (.d (.tuple (cs.map cD))), some (.d (.str (tx o))), some (.d (.str (tx k))), some (.d (.bool c)), some (.d (mostD m)), some (.d (.str (tx x8))), x9, x10] n N Q B C := by
  (repeat walk_at "s")
  refine law_placed_run hK hR hY h ?_
  (repeat walk_at "s")
  refine law_within_run (by omega) ?_
  rw [plc_fx, inB_filter]
  walk_at "r"
  refine ⟨fun z => ?_, fun z => ?_⟩
  · obtain ⟨z1, z2⟩ := Bool.and_eq_true_iff.mp z
    rw [z1, z2, Bool.or_true] at q
    rw [z]
    exact q
  · (repeat walk_at "s")
    refine ⟨_, eq_most m, ?_⟩
    walk_at "r"
    refine ⟨fun z2 => ?_, fun z2 => ?_⟩
    · rw [z2, Bool.true_or, Bool.and_true] at q
      (repeat walk_at "s")
      exact law_within_run (by omega) q
    · rw [z2, Bool.false_or, z] at q
      rw [z2]
      exact q
theorem mem_ocg {g : List Nat} (h : KnP K cs o k m) (hg : ∀ c ∈ g, c ∈ K) : ∀ c ∈ g ++ o ++ colsC cs, c ∈ K := fun c hc => (List.mem_append.mp hc).elim (fun z => (List.mem_append.mp z).elim (hg c) (h.osub c)) (h.cs.sub c)
theorem law_settles_run {f : Fin} {kn : Kn} (hK : ColsOk K) (hR : RulesOk K rules) (hY : KeysOk K keys) (ok : KnOk K kn) (hs : ∀ st ∈ sts, StpOk K st) (ng : ∀ st ∈ sts, isG st = false) (fo : FinOk (keptR K sts) f) (hk : ColsOk (keptR K sts)) (kK : (keptR K sts).Sublist K) (q : Q (.bool (stlB K rules keys (keptR K sts) f kn)) n) :
    MD w__law_settles [.d (schD K rules keys), .d (.tuple ((sts ++ finS f).map stpD)), .d (knD kn)] n Q := by
  have lk := hk.few
  have hs2 : ∀ st ∈ sts ++ finS f, StpOk K st := fun st hst => (List.mem_append.mp hst).elim (hs st) (fin_ok f st)
  refine md_def rfl rfl ?_
  unfold t__law_settles
  walk_at "s"
  (repeat walk_at "s")
  refine ⟨by show 1 ≤ sizeLine; decide, ?_⟩
  refine ⟨_, eq_emp _, ?_⟩
  walk_at "r"
  cases kn with
  | emp =>
    walk_at "t"
    (repeat walk_at "s")
    exact q
  | kn cs o k c m =>
    have h : KnP K cs o k m := ok
    have lo : o.length ≤ 5 := Nat.le_trans (nodup_len h.ond h.osub) hK.few
    have few := h.cs.few hK
    have lc := cols_len (cs := cs)
    walk_at "f"
    (repeat walk_at "s")
    walk_at "r"
    (repeat walk_at "s")
    refine law_kept_run hs2 ?_
    rw [kept_fin]
    walk_at "s"
    (repeat walk_at "s"); walk_at "r"
    cases c with
    | false =>
      walk_at "t"
      (repeat walk_at "s")
      exact q
    | true =>
      walk_at "f"
      walk_at "s"
      have q2 : ∀ b, stlB K rules keys (keptR K sts) f (.kn cs o k true m) = b → Q (.bool b) n := fun b e => by rw [← e]; exact q
      cases f with
      | non =>
        have er : (sts ++ finS .non).map stpD = sts.map stpD := by rw [show finS .non = [] from rfl, List.append_nil]
        walk_at "s"
        walk_at "s"
        (repeat walk_at "s")
        refine ⟨Nat.zero_le _, _, eq_tup0 _, ?_⟩
        walk_at "r"
        by_cases ne : sts = []
        · subst ne
          walk_at "t"
          walk_at "t"
          exact law_end_run hK hR hY h hk.few q
        · obtain ⟨w, r, ei, w0, w1, w2, w3⟩ := last_ng hs ng ne
          refine ⟨fun _ => ?_, fun z => ?_⟩
          · walk_at "t"
            exact law_end_run hK hR hY h hk.few q
          · (repeat walk_at "s")
            refine ⟨1, rfl, ?_⟩
            refine ⟨_, (congrArg (fun l => eIx (.tuple l) (.int (-1))) er).trans ei, ?_⟩
            (repeat walk_at "s")
            refine ⟨_, ix_t0 _ _, ?_⟩
            (repeat walk_at "s")
            refine ⟨by show 3 ≤ sizeLine; decide, ?_⟩
            refine ⟨_, in_lst ["count", "sum", "heads"] _, ?_⟩
            rw [w0]
            walk_at "r"
            walk_at "t"
            exact law_end_run hK hR hY h hk.few q
      | cnt g =>
        have g5 := (show g.Sublist (keptR K sts) from fo).length_le
        have er : (sts ++ finS (.cnt g)).map stpD = sts.map stpD ++ [.tuple [.str "count", .str (tx g)]] := by rw [List.map_append]; rfl
        rw [er]
        walk_at "s"
        walk_at "s"
        (repeat walk_at "s")
        refine ⟨Nat.zero_le _, _, eq_tup0 _, ?_⟩
        rw [show isT0 (.tuple (sts.map stpD ++ [.tuple [.str "count", .str (tx g)]])) = false by cases sts <;> rfl]
        walk_at "r"
        walk_at "f"
        (repeat walk_at "s")
        refine ⟨1, rfl, ?_⟩
        refine ⟨_, ix_snocT _ _, ?_⟩
        (repeat walk_at "s")
        refine ⟨_, ix_t0 _ _, ?_⟩
        (repeat walk_at "s")
        refine ⟨by show 3 ≤ sizeLine; decide, ?_⟩
        refine ⟨_, in_lst ["count", "sum", "heads"] _, ?_⟩
        walk_at "r"
        walk_at "f"
        walk_at "s"
        walk_at "s"
        (repeat walk_at "s")
        refine ⟨1, rfl, ?_⟩
        refine ⟨_, ix_snocT _ _, ?_⟩
        walk_at "s"
        (repeat walk_at "s"); walk_at "e"
        (repeat walk_at "s")
        refine law_within_run (by omega) ?_
        walk_at "r"
        refine ⟨fun z => ?_, fun z => ?_⟩
        · walk_at "t"
          (repeat walk_at "s")
          exact q2 _ (show inB g k = false by simpa using z)
        · (repeat walk_at "s"); walk_at "e"
          (repeat walk_at "s"); walk_at "e"
          walk_at "r"
          walk_at "f"
          walk_at "f"
          walk_at "s"
          walk_at "s"
          (repeat walk_at "s"); walk_at "e"
          (repeat walk_at "s")
          refine ⟨_, ne2_str _ _, ?_⟩
          walk_at "r"
          walk_at "t"
          (repeat walk_at "s")
          exact q2 _ (show inB g k = true by simpa using z)
      | sum g d =>
        have g5 := (show g.Sublist (keptR K sts) from fo.1).length_le
        have er : (sts ++ finS (.sum g d)).map stpD = sts.map stpD ++ [.tuple [.str "sum", .str (tx g), sg d]] := by rw [List.map_append]; rfl
        rw [er]
        walk_at "s"
        walk_at "s"
        (repeat walk_at "s")
        refine ⟨Nat.zero_le _, _, eq_tup0 _, ?_⟩
        rw [show isT0 (.tuple (sts.map stpD ++ [.tuple [.str "sum", .str (tx g), sg d]])) = false by cases sts <;> rfl]
        walk_at "r"
        walk_at "f"
        (repeat walk_at "s")
        refine ⟨1, rfl, ?_⟩
        refine ⟨_, ix_snocT _ _, ?_⟩
        (repeat walk_at "s")
        refine ⟨_, ix_t0 _ _, ?_⟩
        (repeat walk_at "s")
        refine ⟨by show 3 ≤ sizeLine; decide, ?_⟩
        refine ⟨_, in_lst ["count", "sum", "heads"] _, ?_⟩
        walk_at "r"
        walk_at "f"
        walk_at "s"
        walk_at "s"
        (repeat walk_at "s")
        refine ⟨1, rfl, ?_⟩
        refine ⟨_, ix_snocT _ _, ?_⟩
        walk_at "s"
        (repeat walk_at "s"); walk_at "e"
        (repeat walk_at "s")
        refine law_within_run (by omega) ?_
        walk_at "r"
        refine ⟨fun z => ?_, fun z => ?_⟩
        · walk_at "t"
          (repeat walk_at "s")
          refine q2 _ (show inB (g ++ [d]) k = false from ?_)
          rw [inB_snoc, show inB g k = false by simpa using z]
          rfl
        · have hg : inB g k = true := by simpa using z
          (repeat walk_at "s"); walk_at "e"
          (repeat walk_at "s"); walk_at "e"
          walk_at "r"
          walk_at "t"
          (repeat walk_at "s")
          refine ⟨_, ix_t2 _ _ _ _, ?_⟩
          (repeat walk_at "s")
          refine ⟨_, in_sg d _, ?_⟩
          rw [Ls_tx]
          walk_at "r"
          refine ⟨fun z2 => ?_, fun z2 => ?_⟩
          · (repeat walk_at "s")
            refine q2 _ (show inB (g ++ [d]) k = false from ?_)
            rw [inB_snoc, show decide (d ∈ k) = false by simpa using z2, Bool.and_false]
          · walk_at "s"
            walk_at "s"
            (repeat walk_at "s"); walk_at "e"
            (repeat walk_at "s")
            refine ⟨_, ne2_str _ _, ?_⟩
            walk_at "r"
            walk_at "t"
            (repeat walk_at "s")
            refine q2 _ (show inB (g ++ [d]) k = true from ?_)
            rw [inB_snoc, hg, show decide (d ∈ k) = true by simpa using z2]
            rfl
      | hds g =>
        have gs : g.Sublist (keptR K sts) := fo
        have g5 := gs.length_le
        have er : (sts ++ finS (.hds g)).map stpD = sts.map stpD ++ [.tuple [.str "heads", .str (tx g)]] := by rw [List.map_append]; rfl
        rw [er]
        walk_at "s"
        walk_at "s"
        (repeat walk_at "s")
        refine ⟨Nat.zero_le _, _, eq_tup0 _, ?_⟩
        rw [show isT0 (.tuple (sts.map stpD ++ [.tuple [.str "heads", .str (tx g)]])) = false by cases sts <;> rfl]
        walk_at "r"
        walk_at "f"
        (repeat walk_at "s")
        refine ⟨1, rfl, ?_⟩
        refine ⟨_, ix_snocT _ _, ?_⟩
        (repeat walk_at "s")
        refine ⟨_, ix_t0 _ _, ?_⟩
        (repeat walk_at "s")
        refine ⟨by show 3 ≤ sizeLine; decide, ?_⟩
        refine ⟨_, in_lst ["count", "sum", "heads"] _, ?_⟩
        walk_at "r"
        walk_at "f"
        walk_at "s"
        walk_at "s"
        (repeat walk_at "s")
        refine ⟨1, rfl, ?_⟩
        refine ⟨_, ix_snocT _ _, ?_⟩
        walk_at "s"
        (repeat walk_at "s"); walk_at "e"
        (repeat walk_at "s")
        refine law_within_run (by omega) ?_
        have qh : ∀ b, (inB (keptR K sts) k && (decide (m = some 1) || inB (keptR K sts) (fxK K rules keys g cs o))) = b → Q (.bool b) n := q2
        walk_at "r"
        refine ⟨fun z => ?_, fun z => ?_⟩
        · have hg : inB g k = false := by simpa using z
          walk_at "t"
          (repeat walk_at "s")
          refine qh _ ?_
          cases hh : inB (keptR K sts) k with
          | false => rfl
          | true => rw [inB_sub gs hh] at hg; cases hg
        · (repeat walk_at "s"); walk_at "e"
          (repeat walk_at "s"); walk_at "e"
          walk_at "r"
          walk_at "f"
          walk_at "f"
          walk_at "s"
          walk_at "s"
          (repeat walk_at "s"); walk_at "e"
          (repeat walk_at "s")
          refine ⟨_, ne2_str _ _, ?_⟩
          walk_at "r"
          walk_at "f"
          walk_at "s"
          walk_at "s"
          (repeat walk_at "s"); walk_at "e"
          (repeat walk_at "s")
          refine ⟨_, add_str (by rw [Ls_tx, Ls_tx]; omega), ?_⟩
          rw [Ls_tx, Ls_tx]
          (repeat walk_at "s")
          refine law_names_run (by omega) ?_
          refine ⟨_, add_str (by rw [Ls_tx, Ls_tx, List.length_append]; omega), ?_⟩
          rw [Ls_tx, Ls_tx]
          (repeat walk_at "s")
          refine law_closure_run hK hR hY (mem_ocg h fun c hc => kK.subset (gs.subset hc)) (by rw [List.length_append, List.length_append]; omega) ?_
          have e2 : (K.filter fun c => decide (c ∈ g ++ o ++ colsC cs)) = K.filter fun c => decide (c ∈ o ++ colsC cs ++ g) := List.filter_congr fun c _ => by simp [or_comm, or_left_comm]
          rw [e2]
          (repeat walk_at "s")
          refine law_within_run (by omega) ?_
          walk_at "r"
          refine ⟨fun z => ?_, fun z => ?_⟩
          · (repeat walk_at "s")
            refine ⟨_, eq_most m, ?_⟩
            walk_at "r"
            refine ⟨fun z2 => ?_, fun z2 => ?_⟩
            · rw [z2]
              exact qh _ (by rw [z, z2]; rfl)
            · (repeat walk_at "s")
              refine law_within_run (by omega) ?_
              exact qh _ (by rw [z, z2, Bool.true_and, Bool.false_or]; rfl)
          · rw [z]
            exact qh _ (by rw [z]; rfl)
end
section
variable {n : Nat} {Q : PyData → Nat → Prop}
theorem law_same_lstR (d : Nat) {xs : List PyData} (few : xs.length ≤ 1000) (each : ∀ x ∈ xs, ∀ {n : Nat} {Q : PyData → Nat → Prop}, Q (.bool true) n → MD (w__law_same d) [.d x, .d x] n Q) (q : Q (.bool true) n) : MD (w__law_same (d + 1)) [.r xs, .d (.list xs)] n Q := by
  refine md_def rfl rfl ?_
  unfold t__law_same
  (repeat walk_at "s"); walk_at "r"; walk_at "r"; walk_at "f"
  (repeat walk_at "s"); walk_at "r"; walk_at "r"; walk_at "f"
  (repeat walk_at "s"); walk_at "r"; walk_at "r"; walk_at "f"
  (repeat walk_at "s"); walk_at "r"; walk_at "r"; walk_at "f"
  (repeat walk_at "s"); walk_at "r"; walk_at "r"; walk_at "f"
  (repeat walk_at "s"); walk_at "r"; (repeat walk_at "s"); walk_at "r"; walk_at "r"; walk_at "r"; walk_at "f"
  (repeat walk_at "s"); walk_at "r"; (repeat walk_at "s"); walk_at "r"; walk_at "r"; walk_at "r"; walk_at "f"
  (repeat walk_at "s"); walk_at "r"; (repeat walk_at "s"); walk_at "r"
  refine ⟨_, ne2_int _ _, ?_⟩
  rw [decide_eq_true rfl]
  walk_at "r"; walk_at "f"
  walk_at "s"
  walk_at "s"; walk_at "s"; walk_at "s"; walk_at "s"
  refine m_lcM xs (fun x => .tuple [x, x]) (fun _ => .bool true) ?_
  (repeat walk_at "s")
  refine ⟨xs, xs, .inl ⟨rfl, rfl⟩, zip_self xs, by rw [sizeLine_eq]; omega, fun x hx => ⟨_, rfl, fun m => ?_⟩, _, in_falseT xs, q⟩
  (repeat walk_at "s")
  exact each x hx ⟨rfl, rfl⟩
end
section
variable {n : Nat} {K : List Nat} {rules : List Rule} {keys : List (List Nat)} {N : En → Nat → Prop} {R : PyData → Nat → Prop} {B C : En → Nat → Prop}
theorem fit_sch (hK : ColsOk K) (hr : RulesOk K rules) (hk : KeysOk K keys) : Fit 1600 3 (schD K rules keys) := by
  have h5 := hK.few
  have a : ∀ x ∈ rules.map ruD, Fit 202 1 x := fun x hx => by
    obtain ⟨p, hp, rfl⟩ := List.mem_map.mp hx
    obtain ⟨h1, h2, _⟩ := hr.one p hp
    have := h1.length_le
    exact fit_pair (fit_tx (by omega) fun c hc => hK.low c (h1.subset hc)) (fit_tx (l := [p.2]) (by simp) fun d hd => by rw [List.mem_singleton] at hd; subst hd; exact hK.low _ h2)
  have b : ∀ x ∈ keys.map keD, Fit 100 0 x := fun x hx => by
    obtain ⟨p, hp, rfl⟩ := List.mem_map.mp hx
    obtain ⟨h1, _⟩ := hk.one p hp
    have := h1.length_le
    exact fit_tx (by omega) fun c hc => hK.low c (h1.subset hc)
  have a2 := hr.few
  have b2 := hk.few
  have c1 : Fit 1218 2 (.tuple (rules.map ruD)) := (Fit.tup (FitS.all a)).le (by rw [List.length_map]; omega) (Nat.le_refl _)
  have c2 : Fit 202 2 (.tuple (keys.map keD)) := (Fit.tup (FitS.all b)).le (by rw [List.length_map]; omega) (by omega)
  exact (Fit.tup (FitS.cons ((fit_tx h5 hK.low).le (Nat.le_refl _) (Nat.zero_le 2)) (FitS.cons c1 (FitS.cons c2 (FitS.nil.le (Nat.le_refl 0) (Nat.zero_le _)))))).le (by omega) (Nat.le_refl _)
theorem sm_kn6 {K : List Nat} (hK : ColsOk K) {kn : Kn} (h : KnOk K kn) : Sm 6 (knD kn) := by
  cases kn with
  | emp => exact ⟨by show 1 ≤ 1000; decide, fun x hx => by rw [List.mem_singleton.mp hx]; trivial⟩
  | kn cs o k c m =>
    have h : KnP K cs o k m := h
    have few := h.cs.few hK
    refine ⟨by show 5 ≤ 1000; decide, fun x hx => ?_⟩
    simp only [List.mem_cons, List.not_mem_nil, or_false] at hx
    rcases hx with rfl | rfl | rfl | rfl | rfl
    · refine ⟨by rw [List.length_map]; omega, fun y hy => ?_⟩
      obtain ⟨p, _, rfl⟩ := List.mem_map.mp hy
      refine ⟨by show 2 ≤ 1000; decide, fun z hz => ?_⟩
      simp only [List.mem_cons, List.not_mem_nil, or_false] at hz
      rcases hz with rfl | rfl <;> trivial
    · trivial
    · trivial
    · trivial
    · cases m <;> trivial
theorem ix_at {xs : List PyData} {j : Nat} {v : PyData} (h : xs[j]? = some v) : eIx (.list xs) (.int (j : Int)) = some v := atI_nat h
end
abbrev N_law : List Str := ["script", "pen", "turn", "schema", "report", "seen", "due", "again", "told", "k", "step"]
def t_law : WS := (sSeq (sFor (wRng1 (wC (.int 12))) (.nm 2)
  (sSeq (sSet (wCall w__law_draw_schema (wAName 1 (wACons (wC (.int 5)) wANil))) 3)
  (sSeq (sSet (wCall w__law_draw_report (wAName 1 (wAName 3 (wACons (wC (.int 7)) (wACons (wC (.int 5)) wANil))))) 4)
  (sSeq (sPar 5 6 (w1 pRepr2 (wTup (wCons (wVal 3) (wCons (wVal 4) wNil)))) (wCall w__law_derive (wAName 3 (wAName 4 wANil))))
  (sSeq (sFor (wRng1 (wC (.int 2))) (.nm 7)
  (sSeq (sSetO w_derive (wAName 3 (wAName 4 wANil)) 8)
  (sSeq (sIf (wNotT (wTru (wCall (w__law_same 8) (wAName 8 (wAName 6 wANil)))))
  (sRet (wC (.bool false)))
  sNext)
  (sApp 8 (wC .none)))))
  (sSeq (sIf (wNotT (wTru (wCall (w__law_same 8) (wACons (wCall w_start_knowledge (wAName 3 wANil)) (wACons (wOp pIx (wVar 6) (wC (.int 0))) wANil)))))
  (sRet (wC (.bool false)))
  sNext)
  (sSeq (sFor (wEnumT (wVal 4)) (.tp [9, 10])
  (sIf (wNotT (wTru (wCall (w__law_same 8) (wACons (wCall w_knowledge_after (wAName 3 (wACons (wOp pIx (wVar 6) (wVar 9)) (wAName 10 wANil)))) (wACons (wOp pIx (wVar 6) (wOp pAdd (wVar 9) (wC (.int 1)))) wANil)))))
  (sRet (wC (.bool false)))
  sNext))
  (sSeq (sIf (wNotT (wTru (wCall (w__law_same 8) (wACons (wCall w_is_settled (wAName 3 (wAName 4 wANil))) (wACons (wCall w__law_settles (wAName 3 (wAName 4 (wACons (wOp pIx (wVar 6) (wNeg (wC (.int 1)))) wANil)))) wANil)))))
  (sRet (wC (.bool false)))
  sNext)
  (sIf (wTt (wOp pNe2 (w1 pRepr2 (wTup (wCons (wVal 3) (wCons (wVal 4) wNil)))) (wVar 5)))
  (sRet (wC (.bool false)))
  sNext)))))))))
  (sRet (wC (.bool true))))
/-- the law's reading behind the pen -/
abbrev LawHolds : Prop := t_law { nx := fun _ _ => False, rt := fun d _ => d = .bool true } ((List.replicate N_law.length none).set 1 (some .p)) 2147483648
section
variable {n : Nat} {K : List Nat} {rules : List Rule} {keys : List (List Nat)} {N : En → Nat → Prop} {R : PyData → Nat → Prop} {B C : En → Nat → Prop}
theorem turn_body {sts : List Stp} {f : Fin} {x2 x5 x6 x7 x8 x9 x10 : Option Sl} (hK : ColsOk K) (hr : RulesOk K rules) (hk : KeysOk K keys) (hs : ∀ st ∈ sts, StpOk K st) (ng : ∀ st ∈ sts, isG st = false) (fo : FinOk (keptR K sts) f) (hkk : ColsOk (keptR K sts)) (kK : (keptR K sts).Sublist K) (few : sts.length ≤ 100)
    (ft : Fit 9000 5 (.tuple [schD K rules keys, .tuple ((sts ++ finS f).map stpD)]))
    (hN : ∀ (x5 x6 x7 x8 x9 x10 : Option Sl), N [none, some .p, x2, some (.d (schD K rules keys)), some (.d (.tuple ((sts ++ finS f).map stpD))), x5, x6, x7, x8, x9, x10] n) :
    MS (sSeq (sPar 5 6 (w1 pRepr2 (wTup (wCons (wVal 3) (wCons (wVal 4) wNil)))) (wCall w__law_derive (wAName 3 (wAName 4 wANil)))) (sSeq (sFor (wRng1 (wC (.int 2))) (.nm 7) (sSeq (sSetO w_derive (wAName 3 (wAName 4 wANil)) 8) (sSeq (sIf (wNotT (wTru (wCall (w__law_same 8) (wAName 8 (wAName 6 wANil))))) (sRet (wC (.bool false))) sNext) (sApp 8 (wC .none))))) (sSeq (sIf (wNotT (wTru (wCall (w__law_same 8) (wACons (wCall w_start_knowledge (wAName 3 wANil)) (wACons (wOp pIx (wVar 6) (wC (.int 0))) wANil))))) (sRet (wC (.bool false))) sNext) (sSeq (sFor (wEnumT (wVal 4)) (.tp [9, 10]) (sIf (wNotT (wTru (wCall (w__law_same 8) (wACons (wCall w_knowledge_after (wAName 3 (wACons (wOp pIx (wVar 6) (wVar 9)) (wAName 10 wANil)))) (wACons (wOp pIx (wVar 6) (wOp pAdd (wVar 9) (wC (.int 1)))) wANil))))) (sRet (wC (.bool false))) sNext)) (sSeq (sIf (wNotT (wTru (wCall (w__law_same 8) (wACons (wCall w_is_settled (wAName 3 (wAName 4 wANil))) (wACons (wCall w__law_settles (wAName 3 (wAName 4 (wACons (wOp pIx (wVar 6) (wNeg (wC (.int 1)))) wANil)))) wANil))))) (sRet (wC (.bool false))) sNext) (sIf (wTt (wOp pNe2 (w1 pRepr2 (wTup (wCons (wVal 3) (wCons (wVal 4) wNil)))) (wVar 5))) (sRet (wC (.bool false))) sNext)))))) [none, some .p, x2, some (.d (schD K rules keys)), some (.d (.tuple ((sts ++ finS f).map stpD))), x5, x6, x7, x8, x9, x10] n N R B C := by
  have h5 := hK.few
  have lf : (finS f).length ≤ 1 := by cases f <;> simp [finS]
  have hs2 : ∀ st ∈ sts ++ finS f, StpOk K st := fun st hst => (List.mem_append.mp hst).elim (hs st) (fin_ok f st)
  have few2 : (sts ++ finS f).length ≤ 101 := by rw [List.length_append]; omega
  have ok := derv_ok (rules := rules) (keys := keys) hK (sts ++ finS f) (Pu.stK K rules keys) stK_ok hs2
  have ne := derv_ne (K := K) (rules := rules) (keys := keys) (Pu.stK K rules keys) (sts ++ finS f)
  have dl := derv_len (K := K) (rules := rules) (keys := keys) (Pu.stK K rules keys) (sts ++ finS f)
  have at_ := derv_at (K := K) (rules := rules) (keys := keys) (sts ++ finS f) (Pu.stK K rules keys)
  have d0 : ((dervK K rules keys (Pu.stK K rules keys) (sts ++ finS f)).map knD)[0]? = some (knD (Pu.stK K rules keys)) := by
    rw [List.getElem?_map]
    cases sts ++ finS f <;> rfl
  walk_at "s"
  walk_at "s"
  refine m_repr2 (B := 9000) (D := 5) (by omega) (by omega) ?_
  (repeat walk_at "s")
  refine ⟨by show 2 ≤ sizeLine; decide, ft, ?_⟩
  (repeat walk_at "s")
  refine law_derive_run hK hr hk (by omega) hs2 ?_
  have settled : ∀ {Q : PyData → Nat → Prop}, Q (.bool (stlB K rules keys (keptR K sts) f ((dervK K rules keys (Pu.stK K rules keys) (sts ++ finS f)).getLast ne))) n → MD w_is_settled [.d (schD K rules keys), .d (.tuple ((sts ++ finS f).map stpD))] n Q := fun q => is_settled_run hK hr hk (by omega) hs ng fo hkk q
  have lst : eIx (.list ((dervK K rules keys (Pu.stK K rules keys) (sts ++ finS f)).map knD)) (.int (-1)) = some (knD ((dervK K rules keys (Pu.stK K rules keys) (sts ++ finS f)).getLast ne)) := by
    rw [ix_lastL (by simpa using ne), List.getLast_map]
  have lset : ∀ {Q : PyData → Nat → Prop}, Q (.bool (stlB K rules keys (keptR K sts) f ((dervK K rules keys (Pu.stK K rules keys) (sts ++ finS f)).getLast ne))) n → MD w__law_settles [.d (schD K rules keys), .d (.tuple ((sts ++ finS f).map stpD)), .d (knD ((dervK K rules keys (Pu.stK K rules keys) (sts ++ finS f)).getLast ne))] n Q := fun q => law_settles_run hK hr hk (ok _ (List.getLast_mem _)) hs ng fo hkk kK q
  have der : ∀ {Q : PyData → Nat → Prop} {L : List PyData → Nat → Prop}, L ((dervK K rules keys (Pu.stK K rules keys) (sts ++ finS f)).map knD) n → MDO w_derive [.d (schD K rules keys), .d (.tuple ((sts ++ finS f).map stpD))] n Q L := fun q => derive_run hK hr hk (by omega) hs2 q
  generalize stlB K rules keys (keptR K sts) f ((dervK K rules keys (Pu.stK K rules keys) (sts ++ finS f)).getLast ne) = sb at settled lset
  generalize (dervK K rules keys (Pu.stK K rules keys) (sts ++ finS f)).getLast ne = lastK at lst lset
  generalize dervK K rules keys (Pu.stK K rules keys) (sts ++ finS f) = D at ok dl at_ d0 lst der
  generalize hS : sts ++ finS f = S at *
  have lD : (D.map knD).length = S.length + 1 := by rw [List.length_map, dl]
  have smD : ∀ x ∈ D.map knD, Sm 6 x := fun x hx => by
    obtain ⟨kn, hkn, rfl⟩ := List.mem_map.mp hx
    exact sm_kn6 hK (ok kn hkn)
  -- the lists told
  walk_at "s"
  refine n_for ?_
  (repeat walk_at "s")
  refine ⟨2, rfl, by decide, by decide, fun rest e m => m = n ∧ ∃ (x7 x8 : Option Sl), e = [none, some .p, x2, some (.d (schD K rules keys)), some (.d (.tuple (S.map stpD))), some (.d (.str (PyData.tuple [schD K rules keys, .tuple (S.map stpD)]).shown)), some (.d (.list (D.map knD))), x7, x8, x9, x10],
    ⟨rfl, x7, x8, rfl⟩, fun y rest e m hI => ?_, fun e m hI => ?_⟩
  · obtain ⟨rfl, x7, x8, rfl⟩ := hI
    refine ⟨_, rfl, ?_⟩
    walk_at "s"
    refine n_setO ?_
    (repeat walk_at "s")
    refine der ?_
    walk_at "s"
    (repeat walk_at "s")
    refine law_same_lstR 7 (by omega) (fun x hx {n} {Q} q => law_same_refl 6 (smD x hx) q) ?_
    walk_at "r"
    walk_at "f"
    walk_at "s"
    refine n_app rfl ?_
    (repeat walk_at "s")
    exact ⟨by rw [sizeLine_eq]; omega, rfl, _, _, rfl⟩
  obtain ⟨rfl, x7, x8, rfl⟩ := hI
  walk_at "s"
  walk_at "s"
  (repeat walk_at "s")
  refine start_run hK hr hk ?_
  (repeat walk_at "s")
  refine ⟨_, ix_at (j := 0) d0, ?_⟩
  (repeat walk_at "s")
  refine law_same_refl 7 (sm_kn hK stK_ok) ?_
  walk_at "r"
  walk_at "f"
  walk_at "s"
  -- step by step
  walk_at "s"
  refine n_for ?_
  (repeat walk_at "s")
  refine ⟨S.map stpD, .inr rfl, fun rest e m' => m' = m ∧ ∃ (j : Nat) (x9 x10 : Option Sl), rest = (enumD (S.map stpD)).drop j ∧ e = [none, some .p, x2, some (.d (schD K rules keys)), some (.d (.tuple (S.map stpD))), some (.d (.str (PyData.tuple [schD K rules keys, .tuple (S.map stpD)]).shown)), some (.d (.list (D.map knD))), x7, x8, x9, x10],
    ⟨rfl, 0, x9, x10, rfl, rfl⟩, fun y rest e m' hI => ?_, fun e m' hI => ?_⟩
  · obtain ⟨rfl, j, x9, x10, er, rfl⟩ := hI
    obtain ⟨hj, rfl, er2⟩ := enum_atS er
    have hj' : j < S.length := by rw [List.length_map] at hj; exact hj
    obtain ⟨a, a1, a2⟩ := at_ j hj'
    have oka : KnOk K a := ok a (List.mem_of_getElem? a1)
    have so : StpOk K S[j] := hs2 _ (List.getElem_mem hj')
    rw [List.getElem_map]
    refine ⟨_, rfl, ?_⟩
    walk_at "s"
    (repeat walk_at "s")
    refine ⟨_, ix_at (j := j) (v := knD a) (by rw [List.getElem?_map, a1]; rfl), ?_⟩
    (repeat walk_at "s")
    refine knowledge_after_run hK hr hk oka so ?_
    (repeat walk_at "s")
    refine ⟨.int ((j + 1 : Nat) : Int), by rw [show ((j + 1 : Nat) : Int) = (j : Int) + 1 by omega]; rfl, ?_⟩
    refine ⟨_, ix_at (j := j + 1) (v := knD (aft K rules keys a S[j])) (by rw [List.getElem?_map, a2]; rfl), ?_⟩
    (repeat walk_at "s")
    refine law_same_refl 7 (sm_kn hK (aft_ok hK oka so)) ?_
    walk_at "r"
    walk_at "f"
    walk_at "s"
    exact ⟨rfl, j + 1, _, _, er2, rfl⟩
  obtain ⟨rfl, j, x9, x10, er, rfl⟩ := hI
  walk_at "s"
  walk_at "s"
  (repeat walk_at "s")
  refine settled ?_
  (repeat walk_at "s")
  refine ⟨1, rfl, ?_⟩
  refine ⟨_, lst, ?_⟩
  (repeat walk_at "s")
  refine lset ?_
  (repeat walk_at "s")
  refine law_same_bool 7 _ _ ?_
  rw [decide_eq_true (rfl : sb = sb)]
  walk_at "r"
  walk_at "f"
  walk_at "s"
  walk_at "s"
  (repeat walk_at "s")
  refine m_repr2 (B := 9000) (D := 5) (by omega) (by omega) ?_
  (repeat walk_at "s")
  refine ⟨by show 2 ≤ sizeLine; decide, ft, ?_⟩
  (repeat walk_at "s")
  refine ⟨_, ne2_str _ _, ?_⟩
  rw [decide_eq_true rfl]
  walk_at "r"
  walk_at "f"
  (repeat walk_at "s")
  exact hN _ _ _ _ _ _
theorem law_run (hn : 2147480000 ≤ n) : MS t_law ((List.replicate N_law.length none).set 1 (some .p)) n (fun _ _ => False) (fun d _ => d = .bool true) noEnd noEnd := by
  unfold t_law
  walk_at "s"
  refine n_for ?_
  (repeat walk_at "s")
  refine ⟨12, rfl, by decide, by decide, fun rest e m => ∃ (x2 x3 x4 x5 x6 x7 x8 x9 x10 : Option Sl), rest.length ≤ 12 ∧ n ≤ m + (12 - rest.length) * 700 ∧ e = [none, some .p, x2, x3, x4, x5, x6, x7, x8, x9, x10],
    ⟨none, none, none, none, none, none, none, none, none, by decide, by omega, rfl⟩, fun x rest e m hI => ?_, fun e m hI => ?_⟩
  case refine_2 =>
    obtain ⟨x2, x3, x4, x5, x6, x7, x8, x9, x10, _, _, rfl⟩ := hI
    (repeat walk_at "s")
    rfl
  obtain ⟨x2, x3, x4, x5, x6, x7, x8, x9, x10, hl, hm, rfl⟩ := hI
  rw [List.length_cons] at hl hm
  refine ⟨_, rfl, ?_⟩
  walk_at "s"
  (repeat walk_at "s")
  refine draw_schema_run (most := 5) (by omega) (by omega) (by omega) fun K rules keys m1 hK hlow _ hr hk hm1 => ?_
  have h5 := hK.few
  have fs := fit_sch hK hr hk
  walk_at "s"
  (repeat walk_at "s")
  refine draw_report_run (most := 7) (size := 5) hK (by omega) (by omega) (by omega) (by omega) fun xs m2 hd hm2 => ?_
  obtain ⟨sts, f, rfl, lst, hst, ng, fo, hkk, kK, fr⟩ := hd.ex
  refine turn_body hK hr hk (fun st h => (hst st h).1) ng fo hkk kK (by omega) ?_ fun x5 x6 x7 x8 x9 x10 => ?_
  · exact (Fit.tup (FitS.cons (fs.le (Nat.le_refl _) (by omega : 3 ≤ 4)) (FitS.cons ((Fit.tup fr).le (Nat.le_refl _) (by omega)) (FitS.nil.le (Nat.le_refl 0) (Nat.zero_le _))))).le (by omega) (Nat.le_refl _)
  · exact ⟨_, _, _, _, _, _, _, _, _, by omega, by omega, rfl⟩
end
theorem holds : LawHolds := law_run (n := 2147483648) (by decide) { nx := fun _ _ => False, rt := fun d _ => d = .bool true } 2147483648 (Nat.le_refl _) (fun _ _ _ h _ => h) (fun _ _ _ h _ => h) (fun _ _ _ h _ => h.elim) (fun _ _ _ h _ => h.elim)
end Lw
namespace Lw
open PySem PySem.Spec PyProof.Rows L2 Pu
def topS (i : Nat) : Stmt := PySem.Challenge.pw_openties_k12_knowledge_by_rules.main.body.getD i (.Pass ⟨0, 0, 0, 0⟩)
abbrev s__law_open : Stmt := topS 27
abbrev s__law_spread : Stmt := topS 28
abbrev N__law_spread : List Str := ["cell", "at", "primes", "one", "two", "three"]
theorem sc__law_spread : FnScope N__law_spread ["cell", "at"] (defScope s__law_spread) := ⟨rfl, rfl, rfl, by decide +kernel, rfl, by decide +kernel, by decide +kernel⟩
abbrev s__law_take : Stmt := topS 29
abbrev s__law_subset : Stmt := topS 31
abbrev N__law_subset : List Str := ["pen", "columns", "column"]
theorem sc__law_subset : FnScope N__law_subset ["pen", "columns"] (defScope s__law_subset) := ⟨rfl, rfl, rfl, by decide +kernel, rfl, by decide +kernel, by decide +kernel⟩
abbrev s__law_draw_schema : Stmt := topS 33
abbrev N__law_draw_schema : List Str := ["pen", "most", "letters", "columns", "rules", "keys", "again", "right", "left", "one", "k"]
theorem sc__law_draw_schema : FnScope N__law_draw_schema ["pen", "most"] (defScope s__law_draw_schema) := ⟨rfl, rfl, rfl, by decide +kernel, rfl, by decide +kernel, by decide +kernel⟩
abbrev s__law_mixed : Stmt := topS 32
abbrev N__law_mixed : List Str := ["pen", "columns", "found", "column", "spot"]
theorem sc__law_mixed : FnScope N__law_mixed ["pen", "columns"] (defScope s__law_mixed) := ⟨rfl, rfl, rfl, by decide +kernel, rfl, by decide +kernel, by decide +kernel⟩
abbrev s__law_draw_step : Stmt := topS 39
abbrev N__law_draw_step : List Str := ["pen", "kept", "is_behind", "size", "way", "some"]
theorem sc__law_draw_step : FnScope N__law_draw_step ["pen", "kept", "is_behind", "size"] (defScope s__law_draw_step) := ⟨rfl, rfl, rfl, by decide +kernel, rfl, by decide +kernel, by decide +kernel⟩
abbrev s__law_draw_report : Stmt := topS 40
abbrev N__law_draw_report : List Str := ["pen", "schema", "most", "size", "kept", "steps", "early", "k", "step", "way", "group", "rest", "column"]
theorem sc__law_draw_report : FnScope N__law_draw_report ["pen", "schema", "most", "size"] (defScope s__law_draw_report) := ⟨rfl, rfl, rfl, by decide +kernel, rfl, by decide +kernel, by decide +kernel⟩
abbrev s__law_names : Stmt := topS 44
abbrev N__law_names : List Str := ["constants", "column", "cell"]
theorem sc__law_names : FnScope N__law_names ["constants"] (defScope s__law_names) := ⟨rfl, rfl, rfl, by decide +kernel, rfl, by decide +kernel, by decide +kernel⟩
abbrev s__law_all_in : Stmt := topS 37
abbrev N__law_all_in : List Str := ["some", "columns", "column"]
theorem sc__law_all_in : FnScope N__law_all_in ["some", "columns"] (defScope s__law_all_in) := ⟨rfl, rfl, rfl, by decide +kernel, rfl, by decide +kernel, by decide +kernel⟩
abbrev s__law_closure : Stmt := topS 38
abbrev N__law_closure : List Str := ["schema", "columns", "found", "before", "left", "right", "one", "column"]
theorem sc__law_closure : FnScope N__law_closure ["schema", "columns"] (defScope s__law_closure) := ⟨rfl, rfl, rfl, by decide +kernel, rfl, by decide +kernel, by decide +kernel⟩
abbrev s__law_is_one : Stmt := topS 45
abbrev N__law_is_one : List Str := ["schema", "columns", "fixed", "one"]
theorem sc__law_is_one : FnScope N__law_is_one ["schema", "columns"] (defScope s__law_is_one) := ⟨rfl, rfl, rfl, by decide +kernel, rfl, by decide +kernel, by decide +kernel⟩
abbrev s__law_after_where : Stmt := topS 47
abbrev N__law_after_where : List Str := ["schema", "knowledge", "column", "cell", "constants", "order", "known", "counted", "most"]
theorem sc__law_after_where : FnScope N__law_after_where ["schema", "knowledge", "column", "cell"] (defScope s__law_after_where) := ⟨rfl, rfl, rfl, by decide +kernel, rfl, by decide +kernel, by decide +kernel⟩
abbrev s__law_after_sort : Stmt := topS 48
abbrev N__law_after_sort : List Str := ["knowledge", "word", "columns", "constants", "order", "known", "counted", "most", "size", "rest", "column"]
theorem sc__law_after_sort : FnScope N__law_after_sort ["knowledge", "word", "columns"] (defScope s__law_after_sort) := ⟨rfl, rfl, rfl, by decide +kernel, rfl, by decide +kernel, by decide +kernel⟩
abbrev s__law_placed : Stmt := topS 46
abbrev N__law_placed : List Str := ["schema", "knowledge", "constants", "order", "known", "counted", "most", "fixed", "column"]
theorem sc__law_placed : FnScope N__law_placed ["schema", "knowledge"] (defScope s__law_placed) := ⟨rfl, rfl, rfl, by decide +kernel, rfl, by decide +kernel, by decide +kernel⟩
abbrev s__law_after : Stmt := topS 49
abbrev N__law_after : List Str := ["schema", "knowledge", "step", "constants", "order", "known", "counted", "most", "left", "column"]
theorem sc__law_after : FnScope N__law_after ["schema", "knowledge", "step"] (defScope s__law_after) := ⟨rfl, rfl, rfl, by decide +kernel, rfl, by decide +kernel, by decide +kernel⟩
abbrev s__law_derive : Stmt := topS 50
abbrev N__law_derive : List Str := ["schema", "report", "found", "step"]
theorem sc__law_derive : FnScope N__law_derive ["schema", "report"] (defScope s__law_derive) := ⟨rfl, rfl, rfl, by decide +kernel, rfl, by decide +kernel, by decide +kernel⟩
abbrev s_contains : Stmt := topS 2
abbrev N_contains : List Str := ["columns", "part", "column"]
theorem sc_contains : FnScope N_contains ["columns", "part"] (defScope s_contains) := ⟨rfl, rfl, rfl, by decide +kernel, rfl, by decide +kernel, by decide +kernel⟩
abbrev s__has_key : Stmt := topS 5
abbrev N__has_key : List Str := ["columns", "keys", "key"]
theorem sc__has_key : FnScope N__has_key ["columns", "keys"] (defScope s__has_key) := ⟨rfl, rfl, rfl, by decide +kernel, rfl, by decide +kernel, by decide +kernel⟩
abbrev s_common : Stmt := topS 1
abbrev N_common : List Str := ["columns", "names", "column"]
theorem sc_common : FnScope N_common ["columns", "names"] (defScope s_common) := ⟨rfl, rfl, rfl, by decide +kernel, rfl, by decide +kernel, by decide +kernel⟩
abbrev s__closure_round : Stmt := topS 6
abbrev N__closure_round : List Str := ["schema", "found", "names", "rules", "keys", "gained", "left", "right"]
theorem sc__closure_round : FnScope N__closure_round ["schema", "found"] (defScope s__closure_round) := ⟨rfl, rfl, rfl, by decide +kernel, rfl, by decide +kernel, by decide +kernel⟩
abbrev s_closure : Stmt := topS 3
abbrev N_closure : List Str := ["schema", "columns", "found", "_"]
theorem sc_closure : FnScope N_closure ["schema", "columns"] (defScope s_closure) := ⟨rfl, rfl, rfl, by decide +kernel, rfl, by decide +kernel, by decide +kernel⟩
abbrev s_is_unique : Stmt := topS 4
abbrev N_is_unique : List Str := ["schema", "columns"]
theorem sc_is_unique : FnScope N_is_unique ["schema", "columns"] (defScope s_is_unique) := ⟨rfl, rfl, rfl, by decide +kernel, rfl, by decide +kernel, by decide +kernel⟩
abbrev s_start_knowledge : Stmt := topS 14
abbrev N_start_knowledge : List Str := ["schema", "most"]
theorem sc_start_knowledge : FnScope N_start_knowledge ["schema"] (defScope s_start_knowledge) := ⟨rfl, rfl, rfl, by decide +kernel, rfl, by decide +kernel, by decide +kernel⟩
abbrev s__after_where : Stmt := topS 21
abbrev N__after_where : List Str := ["schema", "knowledge", "column", "worth", "constants", "order", "known", "counted", "most", "fixed"]
theorem sc__after_where : FnScope N__after_where ["schema", "knowledge", "column", "worth"] (defScope s__after_where) := ⟨rfl, rfl, rfl, by decide +kernel, rfl, by decide +kernel, by decide +kernel⟩
abbrev s__known_beginning : Stmt := topS 23
abbrev N__known_beginning : List Str := ["known", "columns", "at", "column"]
theorem sc__known_beginning : FnScope N__known_beginning ["known", "columns"] (defScope s__known_beginning) := ⟨rfl, rfl, rfl, by decide +kernel, rfl, by decide +kernel, by decide +kernel⟩
abbrev s__after_sorting : Stmt := topS 22
abbrev N__after_sorting : List Str := ["knowledge", "kind", "columns", "constants", "order", "known", "counted", "most", "new_order", "column"]
theorem sc__after_sorting : FnScope N__after_sorting ["knowledge", "kind", "columns"] (defScope s__after_sorting) := ⟨rfl, rfl, rfl, by decide +kernel, rfl, by decide +kernel, by decide +kernel⟩
abbrev s_determined : Stmt := topS 19
abbrev N_determined : List Str := ["schema", "knowledge", "columns", "constants", "order", "names", "column", "_"]
theorem sc_determined : FnScope N_determined ["schema", "knowledge", "columns"] (defScope s_determined) := ⟨rfl, rfl, rfl, by decide +kernel, rfl, by decide +kernel, by decide +kernel⟩
abbrev s__placed : Stmt := topS 20
abbrev N__placed : List Str := ["schema", "knowledge"]
theorem sc__placed : FnScope N__placed ["schema", "knowledge"] (defScope s__placed) := ⟨rfl, rfl, rfl, by decide +kernel, rfl, by decide +kernel, by decide +kernel⟩
abbrev s__after_first : Stmt := topS 24
abbrev N__after_first : List Str := ["schema", "knowledge", "count", "constants", "order", "_", "counted", "most"]
theorem sc__after_first : FnScope N__after_first ["schema", "knowledge", "count"] (defScope s__after_first) := ⟨rfl, rfl, rfl, by decide +kernel, rfl, by decide +kernel, by decide +kernel⟩
abbrev s__after_skip : Stmt := topS 25
abbrev N__after_skip : List Str := ["schema", "knowledge", "count", "constants", "order", "_", "counted", "most"]
theorem sc__after_skip : FnScope N__after_skip ["schema", "knowledge", "count"] (defScope s__after_skip) := ⟨rfl, rfl, rfl, by decide +kernel, rfl, by decide +kernel, by decide +kernel⟩
abbrev s_knowledge_after : Stmt := topS 15
abbrev N_knowledge_after : List Str := ["schema", "knowledge", "step", "kind", "constants", "order", "known", "counted", "most"]
theorem sc_knowledge_after : FnScope N_knowledge_after ["schema", "knowledge", "step"] (defScope s_knowledge_after) := ⟨rfl, rfl, rfl, by decide +kernel, rfl, by decide +kernel, by decide +kernel⟩
abbrev s_derive : Stmt := topS 16
abbrev N_derive : List Str := ["schema", "report", "found", "step"]
theorem sc_derive : FnScope N_derive ["schema", "report"] (defScope s_derive) := ⟨rfl, rfl, rfl, by decide +kernel, rfl, by decide +kernel, by decide +kernel⟩
abbrev s__law_same : Stmt := topS 30
abbrev N__law_same : List Str := ["found", "due", "one", "other"]
theorem sc__law_same : FnScope N__law_same ["found", "due"] (defScope s__law_same) := ⟨rfl, rfl, rfl, by decide +kernel, rfl, by decide +kernel, by decide +kernel⟩
abbrev s_kept_after : Stmt := topS 11
abbrev N_kept_after : List Str := ["kept", "step"]
theorem sc_kept_after : FnScope N_kept_after ["kept", "step"] (defScope s_kept_after) := ⟨rfl, rfl, rfl, by decide +kernel, rfl, by decide +kernel, by decide +kernel⟩
abbrev s_kept_columns : Stmt := topS 10
abbrev N_kept_columns : List Str := ["schema", "report", "kept", "step"]
theorem sc_kept_columns : FnScope N_kept_columns ["schema", "report"] (defScope s_kept_columns) := ⟨rfl, rfl, rfl, by decide +kernel, rfl, by decide +kernel, by decide +kernel⟩
abbrev s_settles : Stmt := topS 18
abbrev N_settles : List Str := ["schema", "report", "knowledge", "known", "counted", "most", "kind", "kept", "group"]
theorem sc_settles : FnScope N_settles ["schema", "report", "knowledge"] (defScope s_settles) := ⟨rfl, rfl, rfl, by decide +kernel, rfl, by decide +kernel, by decide +kernel⟩
abbrev s_is_settled : Stmt := topS 17
abbrev N_is_settled : List Str := ["schema", "report"]
theorem sc_is_settled : FnScope N_is_settled ["schema", "report"] (defScope s_is_settled) := ⟨rfl, rfl, rfl, by decide +kernel, rfl, by decide +kernel, by decide +kernel⟩
abbrev s__law_kept : Stmt := topS 41
abbrev N__law_kept : List Str := ["schema", "report", "kept", "step"]
theorem sc__law_kept : FnScope N__law_kept ["schema", "report"] (defScope s__law_kept) := ⟨rfl, rfl, rfl, by decide +kernel, rfl, by decide +kernel, by decide +kernel⟩
abbrev s__law_within : Stmt := topS 51
abbrev N__law_within : List Str := ["some", "columns", "column"]
theorem sc__law_within : FnScope N__law_within ["some", "columns"] (defScope s__law_within) := ⟨rfl, rfl, rfl, by decide +kernel, rfl, by decide +kernel, by decide +kernel⟩
abbrev s__law_settles : Stmt := topS 52
abbrev N__law_settles : List Str := ["schema", "report", "knowledge", "constants", "order", "known", "counted", "most", "kept", "step", "fixed"]
theorem sc__law_settles : FnScope N__law_settles ["schema", "report", "knowledge"] (defScope s__law_settles) := ⟨rfl, rfl, rfl, by decide +kernel, rfl, by decide +kernel, by decide +kernel⟩
abbrev s_law : Stmt := topS 53
theorem sc_law : FnScope N_law ["script"] (defScope s_law) := ⟨rfl, rfl, rfl, by decide +kernel, rfl, by decide +kernel, by decide +kernel⟩
/-- what the top has left -/
structure Txt (P : Program) (w : World) (base : Heap) (K : PySem.W.Frag) (mg : Str → Option Value) where
  a__law_open : Addr
  d__law_open : FuncData
  F__law_open : Fun K "_law_open" "_law_open" s__law_open a__law_open d__law_open
  g__law_open : mg "_law_open" = some (.ref a__law_open)
  a__law_spread : Addr
  d__law_spread : FuncData
  F__law_spread : Fun K "_law_spread" "_law_spread" s__law_spread a__law_spread d__law_spread
  g__law_spread : mg "_law_spread" = some (.ref a__law_spread)
  a__law_take : Addr
  d__law_take : FuncData
  F__law_take : Fun K "_law_take" "_law_take" s__law_take a__law_take d__law_take
  g__law_take : mg "_law_take" = some (.ref a__law_take)
  a__law_subset : Addr
  d__law_subset : FuncData
  F__law_subset : Fun K "_law_subset" "_law_subset" s__law_subset a__law_subset d__law_subset
  g__law_subset : mg "_law_subset" = some (.ref a__law_subset)
  a__law_draw_schema : Addr
  d__law_draw_schema : FuncData
  F__law_draw_schema : Fun K "_law_draw_schema" "_law_draw_schema" s__law_draw_schema a__law_draw_schema d__law_draw_schema
  g__law_draw_schema : mg "_law_draw_schema" = some (.ref a__law_draw_schema)
  a__law_mixed : Addr
  d__law_mixed : FuncData
  F__law_mixed : Fun K "_law_mixed" "_law_mixed" s__law_mixed a__law_mixed d__law_mixed
  g__law_mixed : mg "_law_mixed" = some (.ref a__law_mixed)
  a__law_draw_step : Addr
  d__law_draw_step : FuncData
  F__law_draw_step : Fun K "_law_draw_step" "_law_draw_step" s__law_draw_step a__law_draw_step d__law_draw_step
  g__law_draw_step : mg "_law_draw_step" = some (.ref a__law_draw_step)
  a__law_draw_report : Addr
  d__law_draw_report : FuncData
  F__law_draw_report : Fun K "_law_draw_report" "_law_draw_report" s__law_draw_report a__law_draw_report d__law_draw_report
  g__law_draw_report : mg "_law_draw_report" = some (.ref a__law_draw_report)
  a__law_names : Addr
  d__law_names : FuncData
  F__law_names : Fun K "_law_names" "_law_names" s__law_names a__law_names d__law_names
  g__law_names : mg "_law_names" = some (.ref a__law_names)
  a__law_all_in : Addr
  d__law_all_in : FuncData
  F__law_all_in : Fun K "_law_all_in" "_law_all_in" s__law_all_in a__law_all_in d__law_all_in
  g__law_all_in : mg "_law_all_in" = some (.ref a__law_all_in)
  a__law_closure : Addr
  d__law_closure : FuncData
  F__law_closure : Fun K "_law_closure" "_law_closure" s__law_closure a__law_closure d__law_closure
  g__law_closure : mg "_law_closure" = some (.ref a__law_closure)
  a__law_is_one : Addr
  d__law_is_one : FuncData
  F__law_is_one : Fun K "_law_is_one" "_law_is_one" s__law_is_one a__law_is_one d__law_is_one
  g__law_is_one : mg "_law_is_one" = some (.ref a__law_is_one)
  a__law_after_where : Addr
  d__law_after_where : FuncData
  F__law_after_where : Fun K "_law_after_where" "_law_after_where" s__law_after_where a__law_after_where d__law_after_where
  g__law_after_where : mg "_law_after_where" = some (.ref a__law_after_where)
  a__law_after_sort : Addr
  d__law_after_sort : FuncData
  F__law_after_sort : Fun K "_law_after_sort" "_law_after_sort" s__law_after_sort a__law_after_sort d__law_after_sort
  g__law_after_sort : mg "_law_after_sort" = some (.ref a__law_after_sort)
  a__law_placed : Addr
  d__law_placed : FuncData
  F__law_placed : Fun K "_law_placed" "_law_placed" s__law_placed a__law_placed d__law_placed
  g__law_placed : mg "_law_placed" = some (.ref a__law_placed)
  a__law_after : Addr
  d__law_after : FuncData
  F__law_after : Fun K "_law_after" "_law_after" s__law_after a__law_after d__law_after
  g__law_after : mg "_law_after" = some (.ref a__law_after)
  a__law_derive : Addr
  d__law_derive : FuncData
  F__law_derive : Fun K "_law_derive" "_law_derive" s__law_derive a__law_derive d__law_derive
  g__law_derive : mg "_law_derive" = some (.ref a__law_derive)
  a_contains : Addr
  d_contains : FuncData
  F_contains : Fun K "contains" "contains" s_contains a_contains d_contains
  g_contains : mg "contains" = some (.ref a_contains)
  a__has_key : Addr
  d__has_key : FuncData
  F__has_key : Fun K "_has_key" "_has_key" s__has_key a__has_key d__has_key
  g__has_key : mg "_has_key" = some (.ref a__has_key)
  a_common : Addr
  d_common : FuncData
  F_common : Fun K "common" "common" s_common a_common d_common
  g_common : mg "common" = some (.ref a_common)
  a__closure_round : Addr
  d__closure_round : FuncData
  F__closure_round : Fun K "_closure_round" "_closure_round" s__closure_round a__closure_round d__closure_round
  g__closure_round : mg "_closure_round" = some (.ref a__closure_round)
  a_closure : Addr
  d_closure : FuncData
  F_closure : Fun K "closure" "closure" s_closure a_closure d_closure
  g_closure : mg "closure" = some (.ref a_closure)
  a_is_unique : Addr
  d_is_unique : FuncData
  F_is_unique : Fun K "is_unique" "is_unique" s_is_unique a_is_unique d_is_unique
  g_is_unique : mg "is_unique" = some (.ref a_is_unique)
  a_start_knowledge : Addr
  d_start_knowledge : FuncData
  F_start_knowledge : Fun K "start_knowledge" "start_knowledge" s_start_knowledge a_start_knowledge d_start_knowledge
  g_start_knowledge : mg "start_knowledge" = some (.ref a_start_knowledge)
  a__after_where : Addr
  d__after_where : FuncData
  F__after_where : Fun K "_after_where" "_after_where" s__after_where a__after_where d__after_where
  g__after_where : mg "_after_where" = some (.ref a__after_where)
  a__known_beginning : Addr
  d__known_beginning : FuncData
  F__known_beginning : Fun K "_known_beginning" "_known_beginning" s__known_beginning a__known_beginning d__known_beginning
  g__known_beginning : mg "_known_beginning" = some (.ref a__known_beginning)
  a__after_sorting : Addr
  d__after_sorting : FuncData
  F__after_sorting : Fun K "_after_sorting" "_after_sorting" s__after_sorting a__after_sorting d__after_sorting
  g__after_sorting : mg "_after_sorting" = some (.ref a__after_sorting)
  a_determined : Addr
  d_determined : FuncData
  F_determined : Fun K "determined" "determined" s_determined a_determined d_determined
  g_determined : mg "determined" = some (.ref a_determined)
  a__placed : Addr
  d__placed : FuncData
  F__placed : Fun K "_placed" "_placed" s__placed a__placed d__placed
  g__placed : mg "_placed" = some (.ref a__placed)
  a__after_first : Addr
  d__after_first : FuncData
  F__after_first : Fun K "_after_first" "_after_first" s__after_first a__after_first d__after_first
  g__after_first : mg "_after_first" = some (.ref a__after_first)
  a__after_skip : Addr
  d__after_skip : FuncData
  F__after_skip : Fun K "_after_skip" "_after_skip" s__after_skip a__after_skip d__after_skip
  g__after_skip : mg "_after_skip" = some (.ref a__after_skip)
  a_knowledge_after : Addr
  d_knowledge_after : FuncData
  F_knowledge_after : Fun K "knowledge_after" "knowledge_after" s_knowledge_after a_knowledge_after d_knowledge_after
  g_knowledge_after : mg "knowledge_after" = some (.ref a_knowledge_after)
  a_derive : Addr
  d_derive : FuncData
  F_derive : Fun K "derive" "derive" s_derive a_derive d_derive
  g_derive : mg "derive" = some (.ref a_derive)
  a__law_same : Addr
  d__law_same : FuncData
  F__law_same : Fun K "_law_same" "_law_same" s__law_same a__law_same d__law_same
  g__law_same : mg "_law_same" = some (.ref a__law_same)
  a_kept_after : Addr
  d_kept_after : FuncData
  F_kept_after : Fun K "kept_after" "kept_after" s_kept_after a_kept_after d_kept_after
  g_kept_after : mg "kept_after" = some (.ref a_kept_after)
  a_kept_columns : Addr
  d_kept_columns : FuncData
  F_kept_columns : Fun K "kept_columns" "kept_columns" s_kept_columns a_kept_columns d_kept_columns
  g_kept_columns : mg "kept_columns" = some (.ref a_kept_columns)
  a_settles : Addr
  d_settles : FuncData
  F_settles : Fun K "settles" "settles" s_settles a_settles d_settles
  g_settles : mg "settles" = some (.ref a_settles)
  a_is_settled : Addr
  d_is_settled : FuncData
  F_is_settled : Fun K "is_settled" "is_settled" s_is_settled a_is_settled d_is_settled
  g_is_settled : mg "is_settled" = some (.ref a_is_settled)
  a__law_kept : Addr
  d__law_kept : FuncData
  F__law_kept : Fun K "_law_kept" "_law_kept" s__law_kept a__law_kept d__law_kept
  g__law_kept : mg "_law_kept" = some (.ref a__law_kept)
  a__law_within : Addr
  d__law_within : FuncData
  F__law_within : Fun K "_law_within" "_law_within" s__law_within a__law_within d__law_within
  g__law_within : mg "_law_within" = some (.ref a__law_within)
  a__law_settles : Addr
  d__law_settles : FuncData
  F__law_settles : Fun K "_law_settles" "_law_settles" s__law_settles a__law_settles d__law_settles
  g__law_settles : mg "_law_settles" = some (.ref a__law_settles)
  a_law : Addr
  d_law : FuncData
  F_law : Fun K "law" "law" s_law a_law d_law
  g_law : mg "law" = some (.ref a_law)
  n_all : mg "all" = none
  n_any : mg "any" = none
  n_bool : mg "bool" = none
  n_dict : mg "dict" = none
  n_enumerate : mg "enumerate" = none
  n_int : mg "int" = none
  n_isinstance : mg "isinstance" = none
  n_len : mg "len" = none
  n_list : mg "list" = none
  n_range : mg "range" = none
  n_repr : mg "repr" = none
  n_sorted : mg "sorted" = none
  n_str : mg "str" = none
  n_tuple : mg "tuple" = none
  n_zip : mg "zip" = none
  a_EMPTY : Addr
  k_EMPTY : Cst mg "EMPTY" (.ref a_EMPTY)
  r_EMPTY : ∀ F : Hp, RV K F (.ref a_EMPTY) d_EMPTY
  a_GROUPING : Addr
  k_GROUPING : Cst mg "GROUPING" (.ref a_GROUPING)
  r_GROUPING : ∀ F : Hp, RV K F (.ref a_GROUPING) d_GROUPING
  a_SORTING : Addr
  k_SORTING : Cst mg "SORTING" (.ref a_SORTING)
  r_SORTING : ∀ F : Hp, RV K F (.ref a_SORTING) d_SORTING
section
variable {P : Program} {w : World} {K : PySem.W.Frag} {mg : Str → Option Value} {base : Heap}
theorem rv_EMPTY (T : Txt P w base K mg) {F : Hp} : RV K F (.ref T.a_EMPTY) d_EMPTY := T.r_EMPTY F
theorem rv_GROUPING (T : Txt P w base K mg) {F : Hp} : RV K F (.ref T.a_GROUPING) d_GROUPING := T.r_GROUPING F
theorem rv_SORTING (T : Txt P w base K mg) {F : Hp} : RV K F (.ref T.a_SORTING) d_SORTING := T.r_SORTING F
end
/-- a new pen -/
def spOpen (K : PySem.W.Frag) : Sp := fun vs H Q _ => ∃ (a : Addr) (ns : List Int), vs = [.ref a] ∧ SqL K H a (ns.map V.int) ∧ ns.length ≤ 63 ∧
  ∀ (H' : Hp) (pa ca : Addr) (cells : List Int), Same H H' → pa ≠ ca → H pa = none → H ca = none → H' pa = some (.lst [.ref ca, .int 0, .int 0]) → H' ca = some (.lst (cells.map V.int)) → cells.length ≤ 12 → Q (.ref pa) H'
theorem sc__law_open : FnScope ["script", "cells", "k", "cell"] ["script"] (defScope s__law_open) := ⟨rfl, rfl, rfl, by decide +kernel, rfl, by decide +kernel, by decide +kernel⟩
section
variable {P : Program} {w : World} {K : PySem.W.Frag} {mg : Str → Option Value} {base : Heap}
theorem b__law_open (T : Txt P w base K mg) : Binds K T.d__law_open ["script"] [] := T.F__law_open.binds fun _ _ _ _ _ _ us hl => match us, hl with | [_], _ => rfl
theorem ok__law_open (T : Txt P w base K mg) : FnOk P w K mg base CX0 1 T.a__law_open T.d__law_open ["script"] (spOpen K) := by
  refine T.F__law_open.ok sc__law_open (fun vs H Q E h => ?_) (fun cdv A outer s H vs Q E hr h => ?_)
  · obtain ⟨a, ns, rfl, _⟩ := h
    rfl
  · obtain ⟨a, ns, rfl, hS, hlen, q⟩ := h
    refine ⟨_, pss_cons (ps_set (i := 1) sc__law_open.nd rfl (.inl rfl) (pe_callTy call_list_of (by rfl) T.n_list (by decide +kernel) (pa_cons (pe_slice sl_list (pv 0) po_none (po_some pe_int)) pa_nil)))
      (pss_cons (ps_for PassesOwn.never rfl (pi_enum (by rfl) T.n_enumerate (pa_cons (pe_slice sl_list (pv 0) (po_some pe_int) (po_some pe_int)) pa_nil)) (pg_tup rfl (pgs_cons (pg_name (i := 2) sc__law_open.nd rfl (.inl rfl)) (pgs_cons (pg_name (i := 3) sc__law_open.nd rfl (.inl rfl)) pgs_nil)))
        (pss_one (ps_asg (pe_op op_add (pe_ix ix_list (pv 1) (pe_op op_mod (pv 2) pe_int) (fun _ _ => rfl)) (pv 3)) (pg_sub (pv 1) (pe_op op_mod (pv 2) pe_int) set_list))))
      (pss_one (ps_ret (pe_lst (pa_cons (pv 1) (pa_cons pe_int (pa_cons pe_int pa_nil))))))), ?_⟩
    have cutI : ∀ lo hi, cutV (ns.map V.int) lo hi = ((ns.drop (HT.sIx ns.length 0 lo)).take (HT.sIx ns.length ns.length hi - HT.sIx ns.length 0 lo)).map V.int := fun lo hi => by
      unfold cutV
      rw [List.length_map, ← List.map_drop, ← List.map_take]
    -- cells = list(script[:12])
    refine ⟨.ref a, rfl, 12, rfl, a, _, rfl, hS, fun c1 n1 => ?_⟩
    refine ⟨c1, _, rfl, .inl (SqL.of upd_same), fun ca nca => ?_⟩
    have s1 : Same H (upd (upd H c1 (.lst (cutV (ns.map V.int) none (some 12)))) ca (.lst (cutV (ns.map V.int) none (some 12)))) := (same_new n1).trans (same_new nca)
    have hca : H ca = none := (same_new n1).free nca
    -- script[12:63]
    refine ⟨.ref a, rfl, 12, rfl, 63, rfl, a, _, rfl, s1.seq hS, fun c2 n2 => ?_⟩
    have n2' : H c2 = none := s1.free n2
    have s2 : Same H (upd (upd (upd H c1 (.lst (cutV (ns.map V.int) none (some 12)))) ca (.lst (cutV (ns.map V.int) none (some 12)))) c2 (.lst (cutV (ns.map V.int) (some 12) (some 63)))) := s1.trans (same_new n2)
    have ne2 : ca ≠ c2 := fun z => by rw [← z, upd_same] at n2; cases n2
    rw [cutI, cutI] at *
    generalize hA : (ns.drop (HT.sIx ns.length 0 none)).take (HT.sIx ns.length ns.length (some 12) - HT.sIx ns.length 0 none) = A at *
    generalize hB : (ns.drop (HT.sIx ns.length 0 (some 12))).take (HT.sIx ns.length ns.length (some 63) - HT.sIx ns.length 0 (some 12)) = B at *
    have lA : A.length = min 12 ns.length := by
      rw [← hA, HT.sIx_none, show HT.sIx ns.length ns.length (some 12) = min 12 ns.length from HT.sIx_nat _ _ 12, List.length_take, List.length_drop]
      omega
    have lB : B.length = ns.length - 12 := by
      rw [← hB, show HT.sIx ns.length 0 (some 12) = min 12 ns.length from HT.sIx_nat _ _ 12, show HT.sIx ns.length ns.length (some 63) = min 63 ns.length from HT.sIx_nat _ _ 63, List.length_take, List.length_drop]
      omega
    refine ⟨c2, B.map V.int, rfl, SqL.of upd_same, ?_⟩
    refine ⟨fun i m σ H3 => ∃ (y2 y3 : Option V) (cells : List Int), σ = [some (.ref a), some (.ref ca), y2, y3] ∧ i + m = B.length ∧ Same H H3 ∧ H3 c2 = some (.lst (B.map V.int)) ∧ H3 ca = some (.lst (cells.map V.int)) ∧ cells.length = A.length,
      ⟨B.length, none, none, A, rfl, by omega, s2, upd_same, by rw [upd_ne ne2, upd_same], rfl⟩, fun i m σ H3 hW => ?_⟩
    obtain ⟨y2, y3, cells, rfl, em, sm, ec2, eca, lc⟩ := hW
    by_cases hi : i < B.length
    · have g1 : (B.map V.int)[i]? = some (.int B[i]) := by rw [List.getElem?_map, List.getElem?_eq_getElem hi]; rfl
      refine .inr ⟨⟨_, _, SqL.of ec2, g1⟩, fun σ' H' => ∃ (y2 y3 : Option V) (cells : List Int), σ' = [some (.ref a), some (.ref ca), y2, y3] ∧ Same H H' ∧ H' c2 = some (.lst (B.map V.int)) ∧ H' ca = some (.lst (cells.map V.int)) ∧ cells.length = A.length, fun σ' H' hN => ?_, fun x H' hy => ?_⟩
      · obtain ⟨z2, z3, cs, e, h1, h2, h3, h4⟩ := hN
        exact ⟨m - 1, by omega, z2, z3, cs, e, by omega, h1, h2, h3, h4⟩
      · obtain ⟨Tp, x1, rfl, nT, rfl, f1⟩ := hy
        have ex1 : x1 = .int B[i] := Option.some.inj ((f1 _ (SqL.of ec2)).symm.trans g1)
        subst ex1
        have nTc : c2 ≠ Tp := ne_of_none ec2 nT
        have nTa : ca ≠ Tp := ne_of_none eca nT
        have l12 : cells.length = 12 := by rw [lc, lA]; omega
        have k0 : (0 : Int) ≤ (i : Nat) % 12 := Int.emod_nonneg _ (by decide)
        have k1 := Int.emod_lt_of_pos ((i : Nat) : Int) (show (0 : Int) < 12 by decide)
        generalize hk : ((i : Nat) : Int) % 12 = k at k0 k1
        have hl : k.toNat < cells.length := by omega
        have hat : atI (cells.map V.int) k = some (.int cells[k.toNat]) := by
          have := atI_nat (j := k.toNat) (xs := cells.map V.int) (v := .int cells[k.toNat]) (by rw [List.getElem?_map, List.getElem?_eq_getElem hl]; rfl)
          rw [Int.toNat_of_nonneg k0] at this
          exact this
        have hix : ixN (cells.map V.int).length k = some k.toNat := by
          unfold ixN
          rw [if_pos k0, if_pos (by rw [List.length_map]; omega)]
        have ecaT : (upd H3 Tp (.tup [.int (i : Nat), .int B[i]])) ca = some (.lst (cells.map V.int)) := by rw [upd_ne nTa]; exact eca
        refine ⟨Tp, _, rfl, SqT.of upd_same, rfl, _, _, rfl, _, _, rfl, rfl, ?_⟩
        refine ⟨_, rfl, _, rfl, _, 12, rfl, rfl, (show (0 : Int) < 12 by decide), ca, _, k, _, rfl, congrArg V.int hk, SqL.of ecaT, hat, _, rfl, _, _, rfl, rfl, ?_⟩
        refine ⟨_, rfl, _, rfl, _, 12, rfl, rfl, (show (0 : Int) < 12 by decide), ca, _, k, k.toNat, rfl, congrArg V.int hk, ecaT, hix, ?_⟩
        refine ⟨_, _, cells.set k.toNat (cells[k.toNat] + B[i]), rfl, fun b z e => ?_, ?_, ?_, by rw [List.length_set]; exact lc⟩
        · have nb : b ≠ ca := fun zz => by rw [zz, hca] at e; cases e
          have nb2 : b ≠ Tp := ne_of_none (sm _ _ e) nT
          rw [upd_ne nb, upd_ne nb2]; exact sm _ _ e
        · rw [upd_ne (Ne.symm ne2), upd_ne nTc]; exact ec2
        · rw [upd_same, List.map_set]
    · refine .inl ⟨⟨_, SqL.of ec2, by rw [List.length_map]; omega⟩, ?_⟩
      refine ⟨.ref ca, rfl, (by show 3 ≤ sizeLine; decide), fun pa np => ?_⟩
      have npa : ca ≠ pa := ne_of_none eca np
      exact q _ pa ca cells (sm.trans (same_new np)) (Ne.symm npa) (sm.free np) hca upd_same (by rw [upd_ne npa]; exact eca) (by rw [lc, lA]; omega)
/-- the law's body: the pen, then the rest by its reading -/
def spLawTop (K : PySem.W.Frag) : Sp := fun vs H Q _ => ∃ (a : Addr) (ns : List Int), vs = [.ref a] ∧ SqL K H a (ns.map V.int) ∧ ns.length ≤ 63 ∧ ∀ H', Q (.bl true) H'
theorem law_rep {K : PySem.W.Frag} {pa ca a : Addr} {N : List Str} {ip : Nat} {H : Hp} {cells : List Int} (hN : 1 ≤ N.length) (ne : pa ≠ ca) (h1 : H pa = some (.lst [.ref ca, .int 0, .int 0])) (h2 : H ca = some (.lst (cells.map V.int))) (h3 : cells.length ≤ 12) :
    RepS K (some (pa, ca)) (fun _ => none) H (fun _ => none) H ((L2.start N [.ref a]).set ip (some (.ref pa))) ((List.replicate N.length none).set ip (some .p)) 2147483648 := by
  have get : ∀ (i : Nat) (s : Sl), ((List.replicate N.length none).set ip (some Sl.p))[i]? = some (some s) → i = ip ∧ s = .p ∧ i < N.length := fun i s h => by
    have hl : i < N.length := by have := (List.getElem?_eq_some_iff.mp h).1; simpa using this
    by_cases e : i = ip
    · subst e
      rw [List.getElem?_set_self (by simpa using hl)] at h
      cases h
      exact ⟨rfl, rfl, hl⟩
    · rw [List.getElem?_set_ne (Ne.symm e)] at h
      have := List.mem_of_getElem? h
      simp at this
  have ls : (L2.start N [V.ref a]).length = N.length := by simp [L2.start]; omega
  refine ⟨⟨⟨fun _ _ h => (nomatch h), rfl, rfl, ne, cells, 0, 0, h1, h2, by decide, by decide, by decide, h3⟩, by simp [ls], fun i s h => ?_, fun i j c xs ys _ q _ _ => ?_⟩, .refl, fun i c xs hq q _ => ?_⟩
  · obtain ⟨rfl, rfl, hl⟩ := get i s h
    exact ⟨_, List.getElem?_set_self (by rw [ls]; exact hl), pa, ca, rfl, rfl⟩
  · cases (get i _ q).2.1
  · rw [(get i _ q).2.1] at hq; cases hq
end
section
variable {P : Program} {w : World} {K : PySem.W.Frag} {mg : Str → Option Value} {base : Heap}
theorem b__law_spread (T : Txt P w base K mg) : Binds K T.d__law_spread ["cell", "at"] [] := T.F__law_spread.binds fun _ _ _ _ _ _ us hl => match us, hl with | [_, _], _ => rfl
theorem ok__law_spread (T : Txt P w base K mg) : FnOk P w K mg base CX0 1 T.a__law_spread T.d__law_spread ["cell", "at"] (spW K w__law_spread) := ok_fn (N := N__law_spread) (k := 0) T.F__law_spread sc__law_spread fun cdv A outer s H E hr => 
  (sb_cons (s_if (t_cmp op_ge o_intB (b_var (pv 0)) (EE.eb (e_op op_pow o_int (EE.eb e_int) (EE.eb e_int))) (nomark _))
  (sb_one (s_ret (e_var (pv 0))))
  sb_nil)
  (sb_cons (s_set (i := 2) sc__law_spread.nd rfl (by first | exact Or.inl rfl | exact Or.inr rfl) (EF.ee (f_lst (d_cons e_int (d_cons e_int (d_cons e_int (d_cons e_int (d_cons e_int (d_cons e_int (d_cons e_int (d_cons e_int d_nil)))))))))))
  (sb_cons (s_set (i := 2) sc__law_spread.nd rfl (by first | exact Or.inl rfl | exact Or.inr rfl) (e_op opr_add o_add (b_var (pv 2)) (EE.eb (EF.ee (f_lst (d_cons e_int (d_cons e_int (d_cons e_int (d_cons e_int (d_cons e_int d_nil))))))))))
  (sb_cons (s_set (i := 3) sc__law_spread.nd rfl (by first | exact Or.inl rfl | exact Or.inr rfl) (e_op op_mod o_int (EE.eb (e_op op_pow o_int (EE.eb (e_op opr_add o_add (EE.eb (e_op opr_add o_add (EE.eb (e_op opr_mulT o_mulT (EE.eb (e_op op_mod o_int (b_var (pv 0)) (EE.eb e_int))) (EE.eb (e_op opr_add o_add (EE.eb (e_op opr_mulT o_mulT (EE.eb e_int) (b_var (pv 1)))) (EE.eb e_int))))) (EE.eb (e_op opr_mulT o_mulT (b_var (pv 1)) (EE.eb e_int))))) (EE.eb e_int))) (EE.eb e_int))) (EE.eb (e_ix (b_var (pv 2)) (EE.eb (e_op op_mod o_int (b_var (pv 1)) (EE.eb e_int))) (fun _ _ => rfl)))))
  (sb_cons (s_set (i := 4) sc__law_spread.nd rfl (by first | exact Or.inl rfl | exact Or.inr rfl) (e_op op_mod o_int (EE.eb (e_op op_pow o_int (EE.eb (e_op opr_add o_add (EE.eb (e_op opr_add o_add (EE.eb (e_op opr_mulT o_mulT (b_var (pv 3)) (EE.eb (e_op opr_add o_add (b_var (pv 1)) (EE.eb e_int))))) (EE.eb (e_op op_mod o_int (b_var (pv 0)) (EE.eb e_int))))) (EE.eb e_int))) (EE.eb e_int))) (EE.eb (e_ix (b_var (pv 2)) (EE.eb (e_op op_mod o_int (EE.eb (e_op opr_add o_add (b_var (pv 1)) (EE.eb e_int))) (EE.eb e_int))) (fun _ _ => rfl)))))
  (sb_cons (s_set (i := 5) sc__law_spread.nd rfl (by first | exact Or.inl rfl | exact Or.inr rfl) (e_op op_mod o_int (EE.eb (e_op op_pow o_int (EE.eb (e_op opr_add o_add (EE.eb (e_op opr_add o_add (b_var (pv 4)) (EE.eb (e_op op_mod o_int (b_var (pv 3)) (EE.eb e_int))))) (b_var (pv 1)))) (EE.eb e_int))) (EE.eb (e_ix (b_var (pv 2)) (EE.eb (e_op op_mod o_int (EE.eb (e_op opr_add o_add (b_var (pv 1)) (EE.eb e_int))) (EE.eb e_int))) (fun _ _ => rfl)))))
  (sb_one (s_ret (e_op opr_add o_add (EE.eb (e_op opr_mulT o_mulT (EE.eb (e_op opr_add o_add (EE.eb (e_op opr_mulT o_mulT (b_var (pv 3)) (EE.eb e_int))) (b_var (pv 4)))) (EE.eb e_int))) (b_var (pv 5)))))))))))
end
theorem ix_run {xs : List PyData} {i : Int} {v : PyData} {P : PyData → Prop} (h : atI xs i = some v) (p : P v) : pIx (.list xs) (.int i) P := by
  unfold pIx; simp only [h]; exact p
abbrev primesL : List PyData := [.int 2147483629, .int 2147483587, .int 2147483579, .int 2147483563, .int 2147483549, .int 2147483543, .int 2147483497, .int 2147483489] ++ [.int 2147483477, .int 2147483423, .int 2147483399, .int 2147483353, .int 2147483323]
theorem primes_at (i : Int) (h0 : 0 ≤ i) (h1 : i < 13) : ∃ p : Int, atI primesL i = some (.int p) ∧ 0 < p ∧ p < 2147483648 := by
  obtain ⟨n, rfl⟩ := Int.eq_ofNat_of_zero_le h0
  have hn : n = 0 ∨ n = 1 ∨ n = 2 ∨ n = 3 ∨ n = 4 ∨ n = 5 ∨ n = 6 ∨ n = 7 ∨ n = 8 ∨ n = 9 ∨ n = 10 ∨ n = 11 ∨ n = 12 := by omega
  rcases hn with rfl | rfl | rfl | rfl | rfl | rfl | rfl | rfl | rfl | rfl | rfl | rfl | rfl <;> exact ⟨_, rfl, by decide, by decide⟩
theorem mulb {a b c d : Int} (h0 : 0 ≤ a) (h1 : a ≤ c) (h2 : 0 ≤ b) (h3 : b ≤ d) : 0 ≤ a * b ∧ a * b ≤ c * d :=
  ⟨Int.mul_nonneg h0 h2, Int.mul_le_mul h1 h3 h2 (Int.le_trans h0 h1)⟩
theorem spread_run (cell at_ : Int) (b : Nat) (P : PyData → Nat → Prop) (h0 : 0 ≤ at_) (h1 : at_ ≤ 4294967296) (h : ∀ r : Int, 0 ≤ r → P (.int r) b) : w__law_spread [.d (.int cell), .d (.int at_)] b P := by
  refine ⟨rfl, ⟨by decide, by decide, by decide⟩, trivial, ite2 (fun e => ?_) (fun e => ?_)⟩
  · have e2 := of_decide_eq_true e
    have e3 : (10 : Int) ^ Int.toNat 18 = 1000000000000000000 := by decide
    rw [e3] at e2
    exact h cell (by omega)
  · have m0 : 0 ≤ cell % 1000000007 := Int.emod_nonneg _ (by decide)
    have m1 : cell % 1000000007 ≤ 1000000006 := by have := Int.emod_lt_of_pos cell (show (0 : Int) < 1000000007 by decide); omega
    have q1 := mulb m0 m1 (show 0 ≤ 2 * at_ + 69069 by omega) (show 2 * at_ + 69069 ≤ 8590003661 by omega)
    obtain ⟨p1, e1, g1, l1⟩ := primes_at (at_ % 13) (Int.emod_nonneg _ (by decide)) (Int.emod_lt_of_pos _ (by decide))
    refine ⟨by decide, by decide, by decide, show (0 : Int) < 1000000007 by decide, .inl (by decide), .inl ⟨by omega, by omega⟩, .inl ⟨by omega, by omega⟩, ⟨by decide, by decide, by omega⟩, show (0 : Int) < 13 by decide, ?_⟩
    refine ix_run e1 ⟨g1, ?_⟩
    generalize hone : ((cell % 1000000007 * (2 * at_ + 69069) + at_ * 40503 + 977) ^ Int.toNat 3) % p1 = one
    have o0 : 0 ≤ one := by rw [← hone]; exact Int.emod_nonneg _ (by omega)
    have o1 : one ≤ 2147483647 := by have := Int.emod_lt_of_pos ((cell % 1000000007 * (2 * at_ + 69069) + at_ * 40503 + 977) ^ Int.toNat 3) g1; omega
    have c0 : 0 ≤ cell % 65537 := Int.emod_nonneg _ (by decide)
    have c1 : cell % 65537 ≤ 65536 := by have := Int.emod_lt_of_pos cell (show (0 : Int) < 65537 by decide); omega
    have q2 := mulb o0 o1 (show 0 ≤ at_ + 3 by omega) (show at_ + 3 ≤ 4294967299 by omega)
    obtain ⟨p2, e2, g2, l2⟩ := primes_at ((at_ + 5) % 13) (Int.emod_nonneg _ (by decide)) (Int.emod_lt_of_pos _ (by decide))
    refine ⟨.inl ⟨by omega, by omega⟩, show (0 : Int) < 65537 by decide, ⟨by decide, by decide, by rw [hone]; omega⟩, show (0 : Int) < 13 by decide, ?_⟩
    refine ix_run e2 ⟨g2, ?_⟩
    generalize htwo : ((one * (at_ + 3) + cell % 65537 + 5) ^ Int.toNat 5) % p2 = two
    have t0 : 0 ≤ two := by rw [← htwo]; exact Int.emod_nonneg _ (by omega)
    have t1 : two ≤ 2147483647 := by have := Int.emod_lt_of_pos ((one * (at_ + 3) + cell % 65537 + 5) ^ Int.toNat 5) g2; omega
    have n0 : 0 ≤ one % 1009 := Int.emod_nonneg _ (by decide)
    have n1 : one % 1009 ≤ 1008 := by have := Int.emod_lt_of_pos one (show (0 : Int) < 1009 by decide); omega
    obtain ⟨p3, e3, g3, l3⟩ := primes_at ((at_ + 7) % 13) (Int.emod_nonneg _ (by decide)) (Int.emod_lt_of_pos _ (by decide))
    refine ⟨show (0 : Int) < 1009 by decide, ⟨by decide, by decide, by rw [hone, htwo]; omega⟩, show (0 : Int) < 13 by decide, ?_⟩
    refine ix_run e3 ⟨g3, .inl ?_, .inl ?_, ?_⟩
    · simp only [hone, htwo]; constructor <;> omega
    · simp only [hone, htwo]; constructor <;> omega
    refine h _ ?_
    simp only [hone, htwo]
    have s0 : 0 ≤ ((two + one % 1009 + at_) ^ Int.toNat 3) % p3 := Int.emod_nonneg _ (by omega)
    omega
theorem sc__law_take : FnScope ["pen", "amount", "at", "cell", "found"] ["pen", "amount"] (defScope s__law_take) := ⟨rfl, rfl, rfl, by decide +kernel, rfl, by decide +kernel, by decide +kernel⟩
section
variable {P : Program} {w : World} {K : PySem.W.Frag} {mg : Str → Option Value} {base : Heap}
theorem b__law_take (T : Txt P w base K mg) : Binds K T.d__law_take ["pen", "amount"] [] := T.F__law_take.binds fun _ _ _ _ _ _ us hl => match us, hl with | [_, _], _ => rfl
/-- the pen's list from one moment to another -/
structure PenAt (ca : Addr) (cells : List Int) (H0 H : Hp) (pa : Addr) (at_ cur : Int) : Prop where
  old : ∀ a o, H0 a = some o → a ≠ pa → H a = some o
  pen : H pa = some (.lst [.ref ca, .int at_, .int cur])
  cells : H ca = some (.lst (cells.map V.int))
theorem ok__law_take (T : Txt P w base K mg) : FnOk P w K mg base CX0 2 T.a__law_take T.d__law_take ["pen", "amount"] (spW K w__law_take) := by
  refine T.F__law_take.ok sc__law_take (fun vs H Q E h => ?_) (fun cdv A outer s H vs Q E hr h => ?_)
  · obtain ⟨pn, F, ss, b, P, o, ar, ⟨n, e, _⟩, _⟩ := h
    rw [ar.len, e]; rfl
  · obtain ⟨pn, F, ss, b, PP, o, ar, ⟨n, rfl, n0, n1, b0, q⟩, k⟩ := h
    match vs, ar with
    | [v1, v2], ⟨⟨pa, ca, epn, ev⟩, _, rv2, _, _⟩ =>
    cases rv2
    subst epn
    subst ev
    obtain ⟨f1, f2, ne, cells, at_, cur, hp, hcells, iv⟩ := o.pen
    have GS := ok__law_spread T
    refine ⟨_, pss_cons (ps_if (pt_cmpR op_lt (pe_ix ix_list (pv 0) pe_int (fun _ _ => rfl)) (pv 1) (nomark _))
        (pss_cons (ps_set (i := 2) sc__law_take.nd rfl (.inl rfl) (pe_ix ix_list (pv 0) pe_int (fun _ _ => rfl)))
        (pss_cons (ps_set (i := 3) sc__law_take.nd rfl (.inl rfl) pe_int)
        (pss_cons (ps_if (pt_cmpR op_lt (pv 2) (pe_callB call_len_seq (by rfl) T.n_len PySem.boot_len (pa_cons (pe_ix ix_list (pv 0) pe_int (fun _ _ => rfl)) pa_nil)) (nomark _))
            (pss_one (ps_set (i := 3) sc__law_take.nd rfl (.inl rfl) (pe_ix ix_list (pe_ix ix_list (pv 0) pe_int (fun _ _ => rfl)) (pv 2) (fun _ _ => rfl))))
            (pss_one (ps_if (pt_cmpR op_gt (pe_callB call_len_seq (by rfl) T.n_len PySem.boot_len (pa_cons (pe_ix ix_list (pv 0) pe_int (fun _ _ => rfl)) pa_nil)) pe_int (nomark _))
              (pss_one (ps_set (i := 3) sc__law_take.nd rfl (.inl rfl) (pe_op op_mod (pe_ix ix_list (pe_ix ix_list (pv 0) pe_int (fun _ _ => rfl)) (pe_op op_mod (pe_op op_add (pe_op op_mul (pv 2) pe_int) pe_int) (pe_callB call_len_seq (by rfl) T.n_len PySem.boot_len (pa_cons (pe_ix ix_list (pv 0) pe_int (fun _ _ => rfl)) pa_nil))) (fun _ _ => rfl)) (pe_op op_add (pe_op op_pow pe_int pe_int) (pv 2)))))
              pss_nil)))
        (pss_cons (ps_asg (pe_op op_add (pv 2) pe_int) (pg_sub (pv 0) pe_int set_list))
        (pss_one (ps_asg (pe_call GS (hr.mono (by decide)) (by rfl) T.g__law_spread T.F__law_spread.kp (b__law_spread T) .nil pass0 (pa_cons (pv 3) (pa_cons (pv 2) pa_nil))) (pg_sub (pv 0) pe_int set_list)))))))
        pss_nil)
      (pss_cons (ps_set (i := 4) sc__law_take.nd rfl (.inl rfl) (pe_op op_mod (pe_ix ix_list (pv 0) pe_int (fun _ _ => rfl)) (pv 1)))
      (pss_cons (ps_asg (pe_op op_fdiv (pe_ix ix_list (pv 0) pe_int (fun _ _ => rfl)) (pv 1)) (pg_sub (pv 0) pe_int set_list))
      (pss_one (ps_ret (pv 4))))), ?_⟩
    -- the end, from any moment at which the pen has turned
    have fin : ∀ (y2 y3 y4 : Option V) (H1 : Hp) (at1 cur1 : Int), PenAt ca cells H H1 pa at1 cur1 → 0 ≤ at1 → at1 ≤ at_ + 1 → 0 ≤ cur1 →
        tSeq (tAsg (tOp (rI (fun _ j => 0 < j) fun i j => .int (i % j)) (tOp (rIxL K) (tVar 0) (tC (.int 2))) (tVar 1)) (gName 4))
          (tSeq (tAsg (tOp (rI CDiv fun i j => .int (i / j)) (tOp (rIxL K) (tVar 0) (tC (.int 2))) (tVar 1)) (gSub (tVar 0) (tC (.int 2)) rSetL)) (tRet (tVar 4)))
          { nx := fun _ H' => Q .non H', rt := Q } [some (.ref pa), some (.int n), y2, y3, y4] H1 := fun y2 y3 y4 H1 at1 cur1 p a0 a1 c0 => by
      refine ⟨_, rfl, pa, _, _, _, rfl, rfl, SqL.of p.pen, rfl, _, rfl, cur1, n, rfl, rfl, n0, ?_⟩
      refine ⟨_, rfl, pa, _, _, _, rfl, rfl, SqL.of p.pen, rfl, _, rfl, cur1, n, rfl, rfl, ⟨n0, n1⟩, ?_⟩
      refine ⟨_, rfl, pa, _, 2, 2, rfl, rfl, p.pen, rfl, ?_⟩
      refine ⟨_, rfl, ?_⟩
      have nc : ca ≠ pa := Ne.symm ne
      have old : ∀ a u, H a = some u → a ≠ pa → (upd H1 pa (.lst [V.ref ca, V.int at1, V.int (cur1 / n)])) a = some u := fun a u h n => by rw [upd_ne n]; exact p.old a u h n
      refine k _ _ F _ (b - 1) ⟨fun a u h => ?_, ?_⟩ ⟨Same.refl _, fun a u h f np => ⟨old a u h (np pa ca rfl), f⟩⟩ (.int _) (q _ (Int.emod_nonneg _ (by omega)) (Int.emod_lt_of_pos _ n0))
      · exact old a u (o.sub a u h) (fun z => by rw [z, f1] at h; cases h)
      · refine ⟨f1, f2, ne, cells, at1, cur1 / n, upd_same, by rw [upd_ne nc]; exact p.cells, a0, ?_, Int.ediv_nonneg c0 (by omega), iv.few⟩
        have := iv.most
        omega
    have p0 : PenAt ca cells H H pa at_ cur := ⟨fun _ _ h _ => h, hp, hcells⟩
    refine ⟨_, rfl, pa, _, _, _, rfl, rfl, SqL.of p0.pen, rfl, _, rfl, cur, n, rfl, rfl, _, rfl, ite2 (fun _ => ?_) (fun _ => ?_)⟩
    · -- a new cell
      refine ⟨_, rfl, pa, _, _, _, rfl, rfl, SqL.of p0.pen, rfl, ?_⟩
      have cont : ∀ (c : Int), tSeq (tAsg (tOp (rI0 fun i j => .int (i + j)) (tVar 2) (tC (.int 1))) (gSub (tVar 0) (tC (.int 1)) rSetL))
          (tAsg (tCall (spW K w__law_spread) [] E0 (tCons (tVar 3) (tCons (tVar 2) tNil))) (gSub (tVar 0) (tC (.int 2)) rSetL))
          { nx := fun σ' H' => (tSeq (tAsg (tOp (rI (fun _ j => 0 < j) fun i j => .int (i % j)) (tOp (rIxL K) (tVar 0) (tC (.int 2))) (tVar 1)) (gName 4))
          (tSeq (tAsg (tOp (rI CDiv fun i j => .int (i / j)) (tOp (rIxL K) (tVar 0) (tC (.int 2))) (tVar 1)) (gSub (tVar 0) (tC (.int 2)) rSetL)) (tRet (tVar 4)))
          { nx := fun _ H' => Q .non H', rt := Q } σ' H'), rt := Q } [some (.ref pa), some (.int n), some (.int at_), some (.int c), none] H := fun c => by
        refine ⟨_, rfl, at_, 1, rfl, rfl, _, rfl, pa, _, 1, 1, rfl, rfl, hp, rfl, ?_⟩
        have p1 : PenAt ca cells H (upd H pa (.lst [V.ref ca, V.int (at_ + 1), V.int cur])) pa (at_ + 1) cur := ⟨fun a u h n => by rw [upd_ne n]; exact h, upd_same, by rw [upd_ne (Ne.symm ne)]; exact hcells⟩
        refine ⟨_, rfl, _, rfl, none, fun _ => none, [.d (.int c), .d (.int at_)], b, _, ⟨(fun _ _ h => (nomatch h)), trivial⟩, ⟨.int c, rfl, .int at_, rfl, trivial⟩, spread_run c at_ b (fun d _ => ∃ r : Int, d = .int r ∧ 0 ≤ r) iv.at0 (by have := iv.most; omega) (fun r r0 => ⟨r, rfl, r0⟩), fun v d F2 H2 b2 o2 x2 rv ⟨r, er, r0⟩ => ?_⟩
        subst er
        cases rv
        have kp : ∀ a u, (upd H pa (.lst [V.ref ca, V.int (at_ + 1), V.int cur])) a = some u → H2 a = some u := fun a u h => (x2.keep a u h rfl (fun _ _ z => nomatch z)).1
        refine ⟨_, rfl, pa, _, 2, 2, rfl, rfl, kp _ _ p1.pen, rfl, ?_⟩
        exact fin _ _ _ _ (at_ + 1) r ⟨fun a u h n => by rw [upd_ne n]; exact kp a u (p1.old a u h n), upd_same, by rw [upd_ne (Ne.symm ne)]; exact kp _ _ p1.cells⟩ (by have := iv.at0; omega) (Int.le_refl _) r0
      refine ⟨_, rfl, _, rfl, pa, _, _, _, rfl, rfl, SqL.of p0.pen, rfl, ca, _, rfl, .inl (SqL.of hcells), ?_⟩
      refine ⟨_, _, rfl, rfl, _, rfl, ite2 (fun e => ?_) (fun e => ?_)⟩
      · have e1 := of_decide_eq_true e
        rw [List.length_map] at e1
        have a0 := iv.at0
        have hl : at_.toNat < cells.length := by omega
        have hat : atI (cells.map V.int) at_ = some (.int cells[at_.toNat]) := by
          have := atI_nat (j := at_.toNat) (xs := cells.map V.int) (v := .int cells[at_.toNat]) (by rw [List.getElem?_map, List.getElem?_eq_getElem hl]; rfl)
          rw [Int.toNat_of_nonneg a0] at this
          exact this
        refine ⟨_, rfl, pa, _, _, _, rfl, rfl, SqL.of p0.pen, rfl, _, rfl, ca, _, at_, _, rfl, rfl, SqL.of hcells, hat, ?_⟩
        exact cont _
      · refine ⟨_, rfl, pa, _, _, _, rfl, rfl, SqL.of p0.pen, rfl, ca, _, rfl, .inl (SqL.of hcells), ?_⟩
        refine ⟨_, 0, rfl, rfl, _, rfl, ite2 (fun e => ?_) (fun e => ?_)⟩
        · have e1 := of_decide_eq_true e
          rw [List.length_map] at e1
          have a0 := iv.at0
          have am := iv.most
          refine ⟨_, rfl, pa, _, _, _, rfl, rfl, SqL.of p0.pen, rfl, _, rfl, at_, 5, rfl, rfl, .inl ⟨by omega, by omega⟩, _, 3, rfl, rfl, _, rfl, pa, _, _, _, rfl, rfl, SqL.of p0.pen, rfl, ca, _, rfl, .inl (SqL.of hcells), ?_⟩
          have len0 : (0 : Int) < ((cells.map V.int).length : Nat) := by rw [List.length_map]; omega
          have m0 : 0 ≤ (at_ * 5 + 3) % ((cells.map V.int).length : Nat) := Int.emod_nonneg _ (by omega)
          have m1 := Int.emod_lt_of_pos (at_ * 5 + 3) len0
          have lenE : (((cells.map V.int).length : Nat) : Int) = (cells.length : Nat) := by rw [List.length_map]
          generalize hm : (at_ * 5 + 3) % ((cells.map V.int).length : Nat) = m at m0 m1
          have hl : m.toNat < cells.length := by omega
          have hat : atI (cells.map V.int) m = some (.int cells[m.toNat]) := by
            have := atI_nat (j := m.toNat) (xs := cells.map V.int) (v := .int cells[m.toNat]) (by rw [List.getElem?_map, List.getElem?_eq_getElem hl]; rfl)
            rw [Int.toNat_of_nonneg m0] at this
            exact this
          refine ⟨_, _, rfl, rfl, len0, ca, _, _, _, rfl, rfl, SqL.of hcells, by rw [hm]; exact hat, 10, 17, rfl, rfl, ⟨by decide, by decide, by decide⟩, _, rfl, _, at_, rfl, rfl, _, _, rfl, rfl, ?_, ?_⟩
          · show (0 : Int) < 10 ^ Int.toNat 17 + at_
            have : (10 : Int) ^ Int.toNat 17 = 100000000000000000 := by decide
            omega
          · exact cont _
        · exact cont 0
    · exact fin _ _ _ H at_ cur p0 iv.at0 (by omega) iv.cur0
end
section
variable {P : Program} {w : World} {K : PySem.W.Frag} {mg : Str → Option Value} {base : Heap}
theorem b__law_subset (T : Txt P w base K mg) : Binds K T.d__law_subset ["pen", "columns"] [] := T.F__law_subset.binds fun _ _ _ _ _ _ us hl => match us, hl with | [_, _], _ => rfl
theorem ok__law_subset (T : Txt P w base K mg) : FnOk P w K mg base CX0 3 T.a__law_subset T.d__law_subset ["pen", "columns"] (spW K w__law_subset) := ok_fn (N := N__law_subset) (k := 2) T.F__law_subset sc__law_subset fun cdv A outer s H E hr => 
  (sb_one (s_ret (e_join (EE.eb e_str) (EE.eb (EF.ee (f_lc (own := [("column", 2)]) (g := (.nm 2)) rfl sc__law_subset.nd (i_seqB (b_var (pv 1))) (blkOk_by (N := N__law_subset) (sc := defScope s__law_subset) (by decide +kernel)) (by simp [Tg.slots]) (fun _ _ _ _ _ => (g_nm sc__law_subset.nd rfl (by first | exact Or.inl rfl | exact Or.inr rfl))) (fun _ _ _ _ _ => (ts_one (t_cmp (op_eq2 (hu64 hr)) o_eq2 (EE.eb (e_call (ok__law_take T) (hr.mono (by decide)) (by rfl) T.g__law_take T.F__law_take.kp (b__law_take T) (a_name (pv 0) (a_cons e_int a_nil)))) (EE.eb e_int) (nomark _)))) (fun _ _ _ _ _ => (e_var (pv 2)))))))))
end
section
variable {P : Program} {w : World} {K : PySem.W.Frag} {mg : Str → Option Value} {base : Heap}
theorem b__law_draw_schema (T : Txt P w base K mg) : Binds K T.d__law_draw_schema ["pen", "most"] [] := T.F__law_draw_schema.binds fun _ _ _ _ _ _ us hl => match us, hl with | [_, _], _ => rfl
theorem ok__law_draw_schema (T : Txt P w base K mg) : FnOk P w K mg base CX0 4 T.a__law_draw_schema T.d__law_draw_schema ["pen", "most"] (spW K w__law_draw_schema) := ok_fn (N := N__law_draw_schema) (k := 3) T.F__law_draw_schema sc__law_draw_schema fun cdv A outer s H E hr => 
  (sb_cons (s_set (i := 2) sc__law_draw_schema.nd rfl (by first | exact Or.inl rfl | exact Or.inr rfl) (e_ix (EE.eb (EF.ee (f_lst (d_cons e_str (d_cons e_str (d_cons e_str (d_cons e_str (d_cons e_str (d_cons e_str (d_cons e_str d_nil)))))))))) (EE.eb (e_call (ok__law_take T) (hr.mono (by decide)) (by rfl) T.g__law_take T.F__law_take.kp (b__law_take T) (a_name (pv 0) (a_cons e_int a_nil)))) (fun _ _ => rfl)))
  (sb_cons (s_asg (e_tup (d_cons (e_sl (b_var (pv 2)) o_none (o_some (EE.eb (e_op opr_add o_add (EE.eb e_int) (EE.eb (e_call (ok__law_take T) (hr.mono (by decide)) (by rfl) T.g__law_take T.F__law_take.kp (b__law_take T) (a_name (pv 0) (a_name (pv 1) a_nil)))))))) (d_cons (EF.ee (f_lst d_nil)) (d_cons (EF.ee (f_lst d_nil)) d_nil)))) (g_tp rfl (.cons (pg_name sc__law_draw_schema.nd rfl (by first | exact Or.inl rfl | exact Or.inr rfl)) (by rfl) (.cons (pg_name sc__law_draw_schema.nd rfl (by first | exact Or.inl rfl | exact Or.inr rfl)) (by rfl) (.cons (pg_name sc__law_draw_schema.nd rfl (by first | exact Or.inl rfl | exact Or.inr rfl)) (by rfl) .nil)))))
  (sb_cons (s_for PassesOwn.never rfl (i_rng1 false (by rfl) T.n_range (EE.eb (e_ix (EE.eb (EF.ee (f_lst (d_cons e_int (d_cons e_int (d_cons e_int (d_cons e_int (d_cons e_int d_nil)))))))) (EE.eb (e_call (ok__law_take T) (hr.mono (by decide)) (by rfl) T.g__law_take T.F__law_take.kp (b__law_take T) (a_name (pv 0) (a_cons e_int a_nil)))) (fun _ _ => rfl)))) (g_nm sc__law_draw_schema.nd rfl (by first | exact Or.inl rfl | exact Or.inr rfl))
  (sb_pick (ic := 3) (ip := 0) (ir := 7) (il := 8) sc__law_draw_schema.nd rfl (by first | exact Or.inl rfl | exact Or.inr (Or.inl rfl)) (by decide) (by decide) rfl (by first | exact Or.inl rfl | exact Or.inr (Or.inl rfl)) (by decide) (by decide) rfl rfl (by decide) rfl (by first | exact Or.inl rfl | exact Or.inr rfl) (Or.inl rfl) (by decide) (by decide) (ok__law_take T) (hr.mono (by decide)) (by rfl) T.g__law_take T.F__law_take.kp (b__law_take T) (by decide) (ok__law_subset T) (hr.mono (by decide)) (by rfl) T.g__law_subset T.F__law_subset.kp (b__law_subset T) (by decide) (by rfl) T.n_len (by rfl) (by rfl) (by rfl) (by rfl) (by rfl) (by rfl) (by rfl) (by rfl) (by rfl) (by rfl) (sb_one (s_set (i := 4) sc__law_draw_schema.nd rfl (by first | exact Or.inl rfl | exact Or.inr rfl) (e_op opr_add o_add (b_var (pv 4)) (EE.eb (e_op opr_mulT o_mulT (EE.eb (EF.ee (f_lst (d_cons (e_tup (d_cons (e_var (pv 8)) (d_cons (e_var (pv 7)) d_nil))) d_nil)))) (EE.eb (e_ty1 call_int1 c_int (by rfl) T.n_int (by decide +kernel) (EE.eb (e_cmp (opr_ni2 (hu64 hr)) o_ni2 (EE.eb (e_tup (d_cons (e_var (pv 8)) (d_cons (e_var (pv 7)) d_nil)))) (b_var (pv 4)) (by rfl))))))))))))
  (sb_cons (s_if (t_cmp (op_eq2 (hu64 hr)) o_eq2 (EE.eb (e_call (ok__law_take T) (hr.mono (by decide)) (by rfl) T.g__law_take T.F__law_take.kp (b__law_take T) (a_name (pv 0) (a_cons e_int a_nil)))) (EE.eb e_int) (nomark _))
  (sb_cons (s_set (i := 4) sc__law_draw_schema.nd rfl (by first | exact Or.inl rfl | exact Or.inr rfl) (e_rev (EE.eb (EF.ee (f_lc (own := [("k", 10)]) (g := (.nm 10)) rfl sc__law_draw_schema.nd (i_rng1 true (by rfl) T.n_range (EE.eb (e_op op_sub o_int0 (EE.eb (e_call1 call_len c_len (by rfl) T.n_len (by decide +kernel) (b_var (pv 3)))) (EE.eb e_int)))) (blkOk_by (N := N__law_draw_schema) (sc := defScope s__law_draw_schema) (by decide +kernel)) (by simp [Tg.slots]) (fun _ _ _ _ _ => (g_nm sc__law_draw_schema.nd rfl (by first | exact Or.inl rfl | exact Or.inr rfl))) (fun _ _ _ _ _ => ts_nil) (fun _ _ _ _ _ => (e_tup (d_cons (e_ix (b_var (pv 3)) (b_var (pv 10)) (fun _ _ => rfl)) (d_cons (e_ix (b_var (pv 3)) (EE.eb (e_op opr_add o_add (b_var (pv 10)) (EE.eb e_int))) (fun _ _ => rfl)) d_nil)))))))))
  (sb_one (s_set (i := 4) sc__law_draw_schema.nd rfl (by first | exact Or.inl rfl | exact Or.inr rfl) (e_op opr_add o_add (b_var (pv 4)) (EE.eb (e_op opr_mulT o_mulT (EE.eb (EF.ee (f_lst (d_cons (e_tup (d_cons e_str (d_cons (e_ix (b_var (pv 3)) (EE.eb e_int) (fun _ _ => rfl)) d_nil))) d_nil)))) (EE.eb (e_call (ok__law_take T) (hr.mono (by decide)) (by rfl) T.g__law_take T.F__law_take.kp (b__law_take T) (a_name (pv 0) (a_cons e_int a_nil))))))))))
  sb_nil)
  (sb_cons (s_for PassesOwn.never rfl (i_rng1 false (by rfl) T.n_range (EE.eb (e_ix (EE.eb (EF.ee (f_lst (d_cons e_int (d_cons e_int (d_cons e_int (d_cons e_int d_nil))))))) (EE.eb (e_call (ok__law_take T) (hr.mono (by decide)) (by rfl) T.g__law_take T.F__law_take.kp (b__law_take T) (a_name (pv 0) (a_cons e_int a_nil)))) (fun _ _ => rfl)))) (g_nm sc__law_draw_schema.nd rfl (by first | exact Or.inl rfl | exact Or.inr rfl))
  (sb_cons (s_set (i := 9) sc__law_draw_schema.nd rfl (by first | exact Or.inl rfl | exact Or.inr rfl) (e_or (e_call (ok__law_subset T) (hr.mono (by decide)) (by rfl) T.g__law_subset T.F__law_subset.kp (b__law_subset T) (a_name (pv 0) (a_name (pv 3) a_nil))) (e_one (e_ix (b_var (pv 3)) (EE.eb (e_neg (EE.eb e_int))) (fun _ _ => rfl)))))
  (sb_one (s_set (i := 5) sc__law_draw_schema.nd rfl (by first | exact Or.inl rfl | exact Or.inr rfl) (e_op opr_add o_add (b_var (pv 5)) (EE.eb (e_op opr_mulT o_mulT (EE.eb (EF.ee (f_lst (d_cons (e_var (pv 9)) d_nil)))) (EE.eb (e_ty1 call_int1 c_int (by rfl) T.n_int (by decide +kernel) (EE.eb (e_cmp (opr_ni2 (hu64 hr)) o_ni2 (b_var (pv 9)) (b_var (pv 5)) (by rfl))))))))))))
  (sb_one (s_ret (e_tup (d_cons (e_var (pv 3)) (d_cons (e_ty1 (call_tupA rfl) c_tupA (by rfl) T.n_tuple (by decide +kernel) (b_var (pv 4))) (d_cons (e_ty1 (call_tupA rfl) c_tupA (by rfl) T.n_tuple (by decide +kernel) (b_var (pv 5))) d_nil)))))))))))
end
section
variable {P : Program} {w : World} {K : PySem.W.Frag} {mg : Str → Option Value} {base : Heap}
theorem b__law_mixed (T : Txt P w base K mg) : Binds K T.d__law_mixed ["pen", "columns"] [] := T.F__law_mixed.binds fun _ _ _ _ _ _ us hl => match us, hl with | [_, _], _ => rfl
theorem ok__law_mixed (T : Txt P w base K mg) : FnOk P w K mg base CX0 3 T.a__law_mixed T.d__law_mixed ["pen", "columns"] (spW K w__law_mixed) := ok_fn (N := N__law_mixed) (k := 2) T.F__law_mixed sc__law_mixed fun cdv A outer s H E hr => 
  (sb_cons (s_set (i := 2) sc__law_mixed.nd rfl (by first | exact Or.inl rfl | exact Or.inr rfl) e_str)
  (sb_cons (s_for PassesOwn.never rfl (i_seq false (e_var (pv 1))) (g_nm sc__law_mixed.nd rfl (by first | exact Or.inl rfl | exact Or.inr rfl))
  (sb_cons (s_set (i := 4) sc__law_mixed.nd rfl (by first | exact Or.inl rfl | exact Or.inr rfl) (e_call (ok__law_take T) (hr.mono (by decide)) (by rfl) T.g__law_take T.F__law_take.kp (b__law_take T) (a_name (pv 0) (a_cons (e_op opr_add o_add (EE.eb (e_call1 call_len c_len (by rfl) T.n_len (by decide +kernel) (b_var (pv 2)))) (EE.eb e_int)) a_nil))))
  (sb_one (s_set (i := 2) sc__law_mixed.nd rfl (by first | exact Or.inl rfl | exact Or.inr rfl) (e_op opr_add o_add (EE.eb (e_op opr_add o_add (EE.eb (e_sl (b_var (pv 2)) o_none (o_some (b_var (pv 4))))) (b_var (pv 3)))) (EE.eb (e_sl (b_var (pv 2)) (o_some (b_var (pv 4))) o_none)))))))
  (sb_one (s_ret (e_var (pv 2))))))
end
section
variable {P : Program} {w : World} {K : PySem.W.Frag} {mg : Str → Option Value} {base : Heap}
theorem b__law_draw_step (T : Txt P w base K mg) : Binds K T.d__law_draw_step ["pen", "kept", "is_behind", "size"] [] := T.F__law_draw_step.binds fun _ _ _ _ _ _ us hl => match us, hl with | [_, _, _, _], _ => rfl
theorem ok__law_draw_step (T : Txt P w base K mg) : FnOk P w K mg base CX0 4 T.a__law_draw_step T.d__law_draw_step ["pen", "kept", "is_behind", "size"] (spW K w__law_draw_step) := ok_fn (N := N__law_draw_step) (k := 3) T.F__law_draw_step sc__law_draw_step fun cdv A outer s H E hr => 
  (sb_cons (s_set (i := 4) sc__law_draw_step.nd rfl (by first | exact Or.inl rfl | exact Or.inr rfl) (e_call (ok__law_take T) (hr.mono (by decide)) (by rfl) T.g__law_take T.F__law_take.kp (b__law_take T) (a_name (pv 0) (a_cons e_int a_nil))))
  (sb_cons (s_if (PW.pt (tw_and (t_cmp op_lt o_intB (b_var (pv 4)) (EE.eb e_int) (nomark _)) (pw_and1 (t_not (t_tru (b_var (pv 2)) (by intro _; rfl))))))
  (sb_cons (s_set (i := 5) sc__law_draw_step.nd rfl (by first | exact Or.inl rfl | exact Or.inr rfl) (e_call (ok__law_mixed T) (hr.mono (by decide)) (by rfl) T.g__law_mixed T.F__law_mixed.kp (b__law_mixed T) (a_name (pv 0) (a_cons (e_or (e_call (ok__law_subset T) (hr.mono (by decide)) (by rfl) T.g__law_subset T.F__law_subset.kp (b__law_subset T) (a_name (pv 0) (a_name (pv 1) a_nil))) (e_one (e_sl (b_var (pv 1)) o_none (o_some (EE.eb e_int))))) a_nil))))
  (sb_one (s_ret (e_tup (d_cons (e_ix (EE.eb (EF.ee (f_lst (d_cons e_str (d_cons e_str (d_cons e_str (d_cons e_str d_nil))))))) (b_var (pv 4)) (fun _ _ => rfl)) (d_cons (e_var (pv 5)) d_nil))))))
  sb_nil)
  (sb_cons (s_if (PW.pt (tw_and (t_cmp op_lt o_intB (b_var (pv 4)) (EE.eb e_int) (nomark _)) (pw_and1 (t_tru (b_var (pv 2)) (by intro _; rfl)))))
  (sb_one (s_ret (e_tup (d_cons (e_ix (EE.eb (EF.ee (f_lst (d_cons e_str (d_cons e_str (d_cons e_str d_nil)))))) (EE.eb (e_op op_mod o_int (b_var (pv 4)) (EE.eb e_int))) (fun _ _ => rfl)) (d_cons (e_call (ok__law_take T) (hr.mono (by decide)) (by rfl) T.g__law_take T.F__law_take.kp (b__law_take T) (a_name (pv 0) (a_cons (e_ix (EE.eb (EF.ee (f_lst (d_cons (e_var (pv 3)) (d_cons (e_var (pv 3)) (d_cons (e_var (pv 3)) (d_cons e_int d_nil))))))) (EE.eb (e_call (ok__law_take T) (hr.mono (by decide)) (by rfl) T.g__law_take T.F__law_take.kp (b__law_take T) (a_name (pv 0) (a_cons e_int a_nil)))) (fun _ _ => rfl)) a_nil))) d_nil)))))
  sb_nil)
  (sb_cons (s_if (t_cmp (op_eq2 (hu64 hr)) o_eq2 (b_var (pv 4)) (EE.eb e_int) (nomark _))
  (sb_one (s_ret (e_tup (d_cons e_str (d_cons (e_or (e_call (ok__law_subset T) (hr.mono (by decide)) (by rfl) T.g__law_subset T.F__law_subset.kp (b__law_subset T) (a_name (pv 0) (a_name (pv 1) a_nil))) (e_one (e_var (pv 1)))) d_nil)))))
  sb_nil)
  (sb_one (s_ret (e_tup (d_cons e_str (d_cons (e_ix (b_var (pv 1)) (EE.eb (e_call (ok__law_take T) (hr.mono (by decide)) (by rfl) T.g__law_take T.F__law_take.kp (b__law_take T) (a_name (pv 0) (a_cons (e_call1 call_len c_len (by rfl) T.n_len (by decide +kernel) (b_var (pv 1))) a_nil)))) (fun _ _ => rfl)) (d_cons (e_op op_sub o_int0 (EE.eb (e_call (ok__law_take T) (hr.mono (by decide)) (by rfl) T.g__law_take T.F__law_take.kp (b__law_take T) (a_name (pv 0) (a_cons e_int a_nil)))) (EE.eb (e_ix (EE.eb (EF.ee (f_lst (d_cons e_int (d_cons e_int (d_cons e_int (d_cons (e_neg (EE.eb e_int)) (d_cons (e_neg (EE.eb e_int)) d_nil)))))))) (EE.eb (e_call (ok__law_take T) (hr.mono (by decide)) (by rfl) T.g__law_take T.F__law_take.kp (b__law_take T) (a_name (pv 0) (a_cons e_int a_nil)))) (fun _ _ => rfl)))) d_nil))))))))))
end
section
variable {P : Program} {w : World} {K : PySem.W.Frag} {mg : Str → Option Value} {base : Heap}
theorem b__law_draw_report (T : Txt P w base K mg) : Binds K T.d__law_draw_report ["pen", "schema", "most", "size"] [] := T.F__law_draw_report.binds fun _ _ _ _ _ _ us hl => match us, hl with | [_, _, _, _], _ => rfl
theorem ok__law_draw_report (T : Txt P w base K mg) : FnOk P w K mg base CX0 5 T.a__law_draw_report T.d__law_draw_report ["pen", "schema", "most", "size"] (spW K w__law_draw_report) := ok_fn (N := N__law_draw_report) (k := 4) T.F__law_draw_report sc__law_draw_report fun cdv A outer s H E hr => 
  (sb_cons (s_parL rfl sc__law_draw_report.nd (i := 4) (j := 5) rfl rfl (by decide) rfl rfl (e_ix (b_var (pv 1)) (EE.eb e_int) (fun _ _ => rfl)) (f_lst d_nil) (by rfl))
  (sb_cons (s_set (i := 6) sc__law_draw_report.nd rfl (by first | exact Or.inl rfl | exact Or.inr rfl) (e_call (ok__law_take T) (hr.mono (by decide)) (by rfl) T.g__law_take T.F__law_take.kp (b__law_take T) (a_name (pv 0) (a_cons (e_op opr_add o_add (b_var (pv 2)) (EE.eb e_int)) a_nil))))
  (sb_cons (s_for PassesOwn.never rfl (i_rng1 false (by rfl) T.n_range (EE.eb (e_call (ok__law_take T) (hr.mono (by decide)) (by rfl) T.g__law_take T.F__law_take.kp (b__law_take T) (a_name (pv 0) (a_cons (e_op opr_add o_add (b_var (pv 2)) (EE.eb e_int)) a_nil))))) (g_nm sc__law_draw_report.nd rfl (by first | exact Or.inl rfl | exact Or.inr rfl))
  (sb_cons (s_set (i := 8) sc__law_draw_report.nd rfl (by first | exact Or.inl rfl | exact Or.inr rfl) (e_call (ok__law_draw_step T) (hr.mono (by decide)) (by rfl) T.g__law_draw_step T.F__law_draw_step.kp (b__law_draw_step T) (a_name (pv 0) (a_name (pv 4) (a_cons (e_cmp op_ge o_intB (b_var (pv 7)) (b_var (pv 6)) (nomark _)) (a_name (pv 3) a_nil))))))
  (sb_cons (s_set (i := 4) sc__law_draw_report.nd rfl (by first | exact Or.inl rfl | exact Or.inr rfl) (e_if (t_cmp (op_eq2 (hu64 hr)) o_eq2 (EE.eb (e_ix (b_var (pv 8)) (EE.eb e_int) (fun _ _ => rfl))) (EE.eb e_str) (nomark _)) (e_ix (b_var (pv 8)) (EE.eb e_int) (fun _ _ => rfl)) (e_var (pv 4))))
  (sb_one (s_app (pv 5) (e_var (pv 8)))))))
  (sb_cons (s_set (i := 9) sc__law_draw_report.nd rfl (by first | exact Or.inl rfl | exact Or.inr rfl) (e_call (ok__law_take T) (hr.mono (by decide)) (by rfl) T.g__law_take T.F__law_take.kp (b__law_take T) (a_name (pv 0) (a_cons e_int a_nil))))
  (sb_cons (s_set (i := 10) sc__law_draw_report.nd rfl (by first | exact Or.inl rfl | exact Or.inr rfl) (e_or (e_call (ok__law_subset T) (hr.mono (by decide)) (by rfl) T.g__law_subset T.F__law_subset.kp (b__law_subset T) (a_name (pv 0) (a_name (pv 4) a_nil))) (e_one (e_ix (b_var (pv 4)) (EE.eb (e_neg (EE.eb e_int))) (fun _ _ => rfl)))))
  (sb_cons (s_setLc (i := 11) (own := [("column", 12)]) (g := (.nm 12)) rfl sc__law_draw_report.nd rfl rfl (sw_true rfl rfl rfl (by decide +kernel)) (i_seqB (b_var (pv 4))) (blkOk_by (N := N__law_draw_report) (sc := defScope s__law_draw_report) (by decide +kernel)) (by simp [Tg.slots]) (fun _ _ _ _ _ => (g_nm sc__law_draw_report.nd rfl (by first | exact Or.inl rfl | exact Or.inr rfl))) (fun _ _ _ _ _ => (ts_one (t_cmp (opr_ni2 (hu64 hr)) o_ni2 (b_var (pv 12)) (b_var (pv 10)) (by rfl)))) (fun _ _ _ _ _ => (e_var (pv 12))))
  (sb_cons (s_if (t_cmp (op_eq2 (hu64 hr)) o_eq2 (b_var (pv 9)) (EE.eb e_int) (nomark _))
  (sb_one (s_app (pv 5) (e_tup (d_cons e_str (d_cons (e_var (pv 10)) d_nil)))))
  (sb_one (s_if (PW.pt (tw_and (t_cmp (op_eq2 (hu64 hr)) o_eq2 (b_var (pv 9)) (EE.eb e_int) (nomark _)) (pw_and1 (t_cmp (opr_ne2 (hu64 hr)) o_ne2 (b_var (pv 11)) (EE.eb (EF.ee (f_lst d_nil))) (nomark _)))))
  (sb_one (s_app (pv 5) (e_tup (d_cons e_str (d_cons (e_var (pv 10)) (d_cons (e_ix (b_var (pv 11)) (EE.eb (e_call (ok__law_take T) (hr.mono (by decide)) (by rfl) T.g__law_take T.F__law_take.kp (b__law_take T) (a_name (pv 0) (a_cons (e_call1 call_len c_len (by rfl) T.n_len (by decide +kernel) (b_var (pv 11))) a_nil)))) (fun _ _ => rfl)) d_nil))))))
  (sb_one (s_if (t_cmp (op_eq2 (hu64 hr)) o_eq2 (b_var (pv 9)) (EE.eb e_int) (nomark _))
  (sb_one (s_app (pv 5) (e_tup (d_cons e_str (d_cons (e_var (pv 10)) d_nil)))))
  sb_nil)))))
  (sb_one (s_ret (e_ty1 (call_tupA rfl) c_tupA (by rfl) T.n_tuple (by decide +kernel) (b_var (pv 5))))))))))))
end
section
variable {P : Program} {w : World} {K : PySem.W.Frag} {mg : Str → Option Value} {base : Heap}
theorem b__law_names (T : Txt P w base K mg) : Binds K T.d__law_names ["constants"] [] := T.F__law_names.binds fun _ _ _ _ _ _ us hl => match us, hl with | [_], _ => rfl
theorem ok__law_names (T : Txt P w base K mg) : FnOk P w K mg base CX0 1 T.a__law_names T.d__law_names ["constants"] (spW K w__law_names) := ok_fn (N := N__law_names) (k := 0) T.F__law_names sc__law_names fun cdv A outer s H E hr => 
  (sb_one (s_ret (e_join (EE.eb e_str) (EE.eb (EF.ee (f_lc (own := [("column", 1), ("cell", 2)]) (g := (.tp [1, 2])) rfl sc__law_names.nd (i_seqB (b_var (pv 0))) (blkOk_by (N := N__law_names) (sc := defScope s__law_names) (by decide +kernel)) (by simp [Tg.slots]) (fun _ _ _ _ _ => (g_tp rfl (.cons (pg_name sc__law_names.nd rfl (by first | exact Or.inl rfl | exact Or.inr rfl)) (by rfl) (.cons (pg_name sc__law_names.nd rfl (by first | exact Or.inl rfl | exact Or.inr rfl)) (by rfl) .nil)))) (fun _ _ _ _ _ => ts_nil) (fun _ _ _ _ _ => (e_var (pv 1)))))))))
end
section
variable {P : Program} {w : World} {K : PySem.W.Frag} {mg : Str → Option Value} {base : Heap}
theorem b__law_all_in (T : Txt P w base K mg) : Binds K T.d__law_all_in ["some", "columns"] [] := T.F__law_all_in.binds fun _ _ _ _ _ _ us hl => match us, hl with | [_, _], _ => rfl
theorem ok__law_all_in (T : Txt P w base K mg) : FnOk P w K mg base CX0 1 T.a__law_all_in T.d__law_all_in ["some", "columns"] (spW K w__law_all_in) := ok_fn (N := N__law_all_in) (k := 0) T.F__law_all_in sc__law_all_in fun cdv A outer s H E hr => 
  (sb_one (s_ret (e_cmp (op_eq2 (hu64 hr)) o_eq2 (EE.eb (EF.ee (f_lc (own := [("column", 2)]) (g := (.nm 2)) rfl sc__law_all_in.nd (i_seqB (b_var (pv 0))) (blkOk_by (N := N__law_all_in) (sc := defScope s__law_all_in) (by decide +kernel)) (by simp [Tg.slots]) (fun _ _ _ _ _ => (g_nm sc__law_all_in.nd rfl (by first | exact Or.inl rfl | exact Or.inr rfl))) (fun _ _ _ _ _ => (ts_one (t_cmp (opr_ni2 (hu64 hr)) o_ni2 (b_var (pv 2)) (b_var (pv 1)) (by rfl)))) (fun _ _ _ _ _ => (e_var (pv 2)))))) (EE.eb (EF.ee (f_lst d_nil))) (nomark _))))
end
section
variable {P : Program} {w : World} {K : PySem.W.Frag} {mg : Str → Option Value} {base : Heap}
theorem b__law_closure (T : Txt P w base K mg) : Binds K T.d__law_closure ["schema", "columns"] [] := T.F__law_closure.binds fun _ _ _ _ _ _ us hl => match us, hl with | [_, _], _ => rfl
theorem ok__law_closure (T : Txt P w base K mg) : FnOk P w K mg base CX0 2 T.a__law_closure T.d__law_closure ["schema", "columns"] (spW K w__law_closure) := ok_fn (N := N__law_closure) (k := 1) T.F__law_closure sc__law_closure fun cdv A outer s H E hr => 
  (sb_cons (s_asg (e_tup (d_cons (e_var (pv 1)) (d_cons e_non d_nil))) (g_tp rfl (.cons (pg_name sc__law_closure.nd rfl (by first | exact Or.inl rfl | exact Or.inr rfl)) (by rfl) (.cons (pg_name sc__law_closure.nd rfl (by first | exact Or.inl rfl | exact Or.inr rfl)) (by rfl) .nil))))
  (sb_cons (s_while PassesOwn.never (t_cmp (opr_ne2 (hu64 hr)) o_ne2 (b_var (pv 2)) (b_var (pv 3)) (nomark _))
  (sb_cons (s_set (i := 3) sc__law_closure.nd rfl (by first | exact Or.inl rfl | exact Or.inr rfl) (e_var (pv 2)))
  (sb_cons (s_for PassesOwn.never rfl (i_seq false (e_ix (b_var (pv 0)) (EE.eb e_int) (fun _ _ => rfl))) (g_tp rfl (.cons (pg_name sc__law_closure.nd rfl (by first | exact Or.inl rfl | exact Or.inr rfl)) (by rfl) (.cons (pg_name sc__law_closure.nd rfl (by first | exact Or.inl rfl | exact Or.inr rfl)) (by rfl) .nil)))
  (sb_one (s_if (PW.pt (tw_and (t_tru (EE.eb (e_call (ok__law_all_in T) (hr.mono (by decide)) (by rfl) T.g__law_all_in T.F__law_all_in.kp (b__law_all_in T) (a_name (pv 4) (a_name (pv 2) a_nil)))) (by intro _; rfl)) (pw_and1 (t_cmp (opr_ni2 (hu64 hr)) o_ni2 (b_var (pv 5)) (b_var (pv 2)) (by rfl)))))
  (sb_one (s_set (i := 2) sc__law_closure.nd rfl (by first | exact Or.inl rfl | exact Or.inr rfl) (e_op opr_add o_add (b_var (pv 2)) (b_var (pv 5)))))
  sb_nil)))
  (sb_one (s_if (t_cmp (opr_in2 (hu64 hr)) o_in2 (EE.eb e_bl) (EE.eb (EF.ee (f_lc (own := [("one", 6)]) (g := (.nm 6)) rfl sc__law_closure.nd (i_seqB (EE.eb (e_ix (b_var (pv 0)) (EE.eb e_int) (fun _ _ => rfl)))) (blkOk_by (N := N__law_closure) (sc := defScope s__law_closure) (by decide +kernel)) (by simp [Tg.slots]) (fun _ _ _ _ _ => (g_nm sc__law_closure.nd rfl (by first | exact Or.inl rfl | exact Or.inr rfl))) (fun _ _ _ _ _ => ts_nil) (fun _ _ _ _ _ => (e_call (ok__law_all_in T) (hr.mono (by decide)) (by rfl) T.g__law_all_in T.F__law_all_in.kp (b__law_all_in T) (a_name (pv 6) (a_name (pv 2) a_nil))))))) (by rfl))
  (sb_one (s_set (i := 2) sc__law_closure.nd rfl (by first | exact Or.inl rfl | exact Or.inr rfl) (e_ix (b_var (pv 0)) (EE.eb e_int) (fun _ _ => rfl))))
  sb_nil)))))
  (sb_one (s_ret (e_join (EE.eb e_str) (EE.eb (EF.ee (f_lc (own := [("column", 7)]) (g := (.nm 7)) rfl sc__law_closure.nd (i_seqB (EE.eb (e_ix (b_var (pv 0)) (EE.eb e_int) (fun _ _ => rfl)))) (blkOk_by (N := N__law_closure) (sc := defScope s__law_closure) (by decide +kernel)) (by simp [Tg.slots]) (fun _ _ _ _ _ => (g_nm sc__law_closure.nd rfl (by first | exact Or.inl rfl | exact Or.inr rfl))) (fun _ _ _ _ _ => (ts_one (t_cmp (opr_in2 (hu64 hr)) o_in2 (b_var (pv 7)) (b_var (pv 2)) (by rfl)))) (fun _ _ _ _ _ => (e_var (pv 7)))))))))))
end
section
variable {P : Program} {w : World} {K : PySem.W.Frag} {mg : Str → Option Value} {base : Heap}
theorem b__law_is_one (T : Txt P w base K mg) : Binds K T.d__law_is_one ["schema", "columns"] [] := T.F__law_is_one.binds fun _ _ _ _ _ _ us hl => match us, hl with | [_, _], _ => rfl
theorem ok__law_is_one (T : Txt P w base K mg) : FnOk P w K mg base CX0 3 T.a__law_is_one T.d__law_is_one ["schema", "columns"] (spW K w__law_is_one) := ok_fn (N := N__law_is_one) (k := 2) T.F__law_is_one sc__law_is_one fun cdv A outer s H E hr => 
  (sb_cons (s_set (i := 2) sc__law_is_one.nd rfl (by first | exact Or.inl rfl | exact Or.inr rfl) (e_call (ok__law_closure T) (hr.mono (by decide)) (by rfl) T.g__law_closure T.F__law_closure.kp (b__law_closure T) (a_name (pv 0) (a_name (pv 1) a_nil))))
  (sb_one (s_ret (e_cmp (opr_in2 (hu64 hr)) o_in2 (EE.eb e_bl) (EE.eb (EF.ee (f_lc (own := [("one", 3)]) (g := (.nm 3)) rfl sc__law_is_one.nd (i_seqB (EE.eb (e_ix (b_var (pv 0)) (EE.eb e_int) (fun _ _ => rfl)))) (blkOk_by (N := N__law_is_one) (sc := defScope s__law_is_one) (by decide +kernel)) (by simp [Tg.slots]) (fun _ _ _ _ _ => (g_nm sc__law_is_one.nd rfl (by first | exact Or.inl rfl | exact Or.inr rfl))) (fun _ _ _ _ _ => ts_nil) (fun _ _ _ _ _ => (e_call (ok__law_all_in T) (hr.mono (by decide)) (by rfl) T.g__law_all_in T.F__law_all_in.kp (b__law_all_in T) (a_name (pv 3) (a_name (pv 2) a_nil))))))) (by rfl)))))
end
section
variable {P : Program} {w : World} {K : PySem.W.Frag} {mg : Str → Option Value} {base : Heap}
theorem b__law_after_where (T : Txt P w base K mg) : Binds K T.d__law_after_where ["schema", "knowledge", "column", "cell"] [] := T.F__law_after_where.binds fun _ _ _ _ _ _ us hl => match us, hl with | [_, _, _, _], _ => rfl
theorem ok__law_after_where (T : Txt P w base K mg) : FnOk P w K mg base CX0 4 T.a__law_after_where T.d__law_after_where ["schema", "knowledge", "column", "cell"] (spW K w__law_after_where) := ok_fn (N := N__law_after_where) (k := 3) T.F__law_after_where sc__law_after_where fun cdv A outer s H E hr => 
  (sb_cons (s_asg (e_var (pv 1)) (g_tp rfl (.cons (pg_name sc__law_after_where.nd rfl (by first | exact Or.inl rfl | exact Or.inr rfl)) (by rfl) (.cons (pg_name sc__law_after_where.nd rfl (by first | exact Or.inl rfl | exact Or.inr rfl)) (by rfl) (.cons (pg_name sc__law_after_where.nd rfl (by first | exact Or.inl rfl | exact Or.inr rfl)) (by rfl) (.cons (pg_name sc__law_after_where.nd rfl (by first | exact Or.inl rfl | exact Or.inr rfl)) (by rfl) (.cons (pg_name sc__law_after_where.nd rfl (by first | exact Or.inl rfl | exact Or.inr rfl)) (by rfl) .nil)))))))
  (sb_cons (s_if (t_cmp (opr_in2 (hu64 hr)) o_in2 (b_var (pv 2)) (EE.eb (e_call (ok__law_names T) (hr.mono (by decide)) (by rfl) T.g__law_names T.F__law_names.kp (b__law_names T) (a_name (pv 4) a_nil))) (by rfl))
  (sb_one (s_ret (e_if (t_cmp (op_eq2 (hu64 hr)) o_eq2 (EE.eb (e_dget2 (hu64 hr) rfl (by rfl) T.n_dict (b_var (pv 4)) (b_var (pv 2)) e_non ⟨by rfl, by rfl, by rfl, by rfl⟩)) (b_var (pv 3)) (nomark _)) (e_var (pv 1)) (e_tup (d_cons e_str d_nil)))))
  sb_nil)
  (sb_cons (s_set (i := 4) sc__law_after_where.nd rfl (by first | exact Or.inl rfl | exact Or.inr rfl) (e_ty1 (call_tupA rfl) c_tupA (by rfl) T.n_tuple (by decide +kernel) (EE.eb (EF.ee (f_sortD (hu64 hr) rfl (by rfl) T.n_sorted (EE.eb (e_op opr_add o_add (b_var (pv 4)) (EE.eb (e_tup (d_cons (e_tup (d_cons (e_var (pv 2)) (d_cons (e_var (pv 3)) d_nil))) d_nil))))))))))
  (sb_cons (s_if (t_cmp (opr_ni2 (hu64 hr)) o_ni2 (b_var (pv 2)) (b_var (pv 6)) (by rfl))
  (sb_one (s_asg (e_tup (d_cons e_str (d_cons e_bl d_nil))) (g_tp rfl (.cons (pg_name sc__law_after_where.nd rfl (by first | exact Or.inl rfl | exact Or.inr rfl)) (by rfl) (.cons (pg_name sc__law_after_where.nd rfl (by first | exact Or.inl rfl | exact Or.inr rfl)) (by rfl) .nil)))))
  sb_nil)
  (sb_one (s_ret (e_tup (d_cons (e_var (pv 4)) (d_cons (e_var (pv 5)) (d_cons (e_var (pv 6)) (d_cons (e_var (pv 7)) (d_cons (e_if (t_tru (EE.eb (e_call (ok__law_is_one T) (hr.mono (by decide)) (by rfl) T.g__law_is_one T.F__law_is_one.kp (b__law_is_one T) (a_name (pv 0) (a_cons (e_call (ok__law_names T) (hr.mono (by decide)) (by rfl) T.g__law_names T.F__law_names.kp (b__law_names T) (a_name (pv 4) a_nil)) a_nil)))) (by intro _; rfl)) e_int (e_var (pv 8))) d_nil))))))))))))
end
section
variable {P : Program} {w : World} {K : PySem.W.Frag} {mg : Str → Option Value} {base : Heap}
theorem b__law_after_sort (T : Txt P w base K mg) : Binds K T.d__law_after_sort ["knowledge", "word", "columns"] [] := T.F__law_after_sort.binds fun _ _ _ _ _ _ us hl => match us, hl with | [_, _, _], _ => rfl
theorem ok__law_after_sort (T : Txt P w base K mg) : FnOk P w K mg base CX0 1 T.a__law_after_sort T.d__law_after_sort ["knowledge", "word", "columns"] (spW K w__law_after_sort) := ok_fn (N := N__law_after_sort) (k := 0) T.F__law_after_sort sc__law_after_sort fun cdv A outer s H E hr => 
  (sb_cons (s_asg (e_var (pv 0)) (g_tp rfl (.cons (pg_name sc__law_after_sort.nd rfl (by first | exact Or.inl rfl | exact Or.inr rfl)) (by rfl) (.cons (pg_name sc__law_after_sort.nd rfl (by first | exact Or.inl rfl | exact Or.inr rfl)) (by rfl) (.cons (pg_name sc__law_after_sort.nd rfl (by first | exact Or.inl rfl | exact Or.inr rfl)) (by rfl) (.cons (pg_name sc__law_after_sort.nd rfl (by first | exact Or.inl rfl | exact Or.inr rfl)) (by rfl) (.cons (pg_name sc__law_after_sort.nd rfl (by first | exact Or.inl rfl | exact Or.inr rfl)) (by rfl) .nil)))))))
  (sb_cons (s_set (i := 8) sc__law_after_sort.nd rfl (by first | exact Or.inl rfl | exact Or.inr rfl) e_int)
  (sb_cons (s_while PassesOwn.never (PW.pt (tw_and (t_cmp (opr_ne2 (hu64 hr)) o_ne2 (EE.eb (e_sl (b_var (pv 2)) (o_some (b_var (pv 8))) (o_some (EE.eb (e_op opr_add o_add (b_var (pv 8)) (EE.eb e_int)))))) (EE.eb e_str) (nomark _)) (pw_and1 (t_cmp (opr_in2 (hu64 hr)) o_in2 (EE.eb (e_ix (b_var (pv 2)) (b_var (pv 8)) (fun _ _ => rfl))) (b_var (pv 5)) (by rfl)))))
  (sb_one (s_set (i := 8) sc__law_after_sort.nd rfl (by first | exact Or.inl rfl | exact Or.inr rfl) (e_op opr_add o_add (b_var (pv 8)) (EE.eb e_int)))))
  (sb_cons (s_set (i := 9) sc__law_after_sort.nd rfl (by first | exact Or.inl rfl | exact Or.inr rfl) (e_join (EE.eb e_str) (EE.eb (EF.ee (f_lc (own := [("column", 10)]) (g := (.nm 10)) rfl sc__law_after_sort.nd (i_seqB (b_var (pv 4))) (blkOk_by (N := N__law_after_sort) (sc := defScope s__law_after_sort) (by decide +kernel)) (by simp [Tg.slots]) (fun _ _ _ _ _ => (g_nm sc__law_after_sort.nd rfl (by first | exact Or.inl rfl | exact Or.inr rfl))) (fun _ _ _ _ _ => (ts_one (t_cmp (opr_ni2 (hu64 hr)) o_ni2 (b_var (pv 10)) (b_var (pv 2)) (by rfl)))) (fun _ _ _ _ _ => (e_var (pv 10))))))))
  (sb_one (s_ret (e_tup (d_cons (e_var (pv 3)) (d_cons (e_op opr_add o_add (EE.eb (e_sl (b_var (pv 2)) o_none (o_some (b_var (pv 8))))) (EE.eb (e_op opr_mulV o_mulV (b_var (pv 9)) (EE.eb (e_ty1 call_int1 c_int (by rfl) T.n_int (by decide +kernel) (EE.eb (e_and (e_cmp (op_eq2 (hu64 hr)) o_eq2 (b_var (pv 1)) (EE.eb e_str) (nomark _)) (e_one (e_cmp (op_eq2 (hu64 hr)) o_eq2 (b_var (pv 8)) (EE.eb (e_call1 call_len c_len (by rfl) T.n_len (by decide +kernel) (b_var (pv 2)))) (nomark _)))))))))) (d_cons (e_var (pv 5)) (d_cons (e_var (pv 6)) (d_cons (e_var (pv 7)) d_nil))))))))))))
end
section
variable {P : Program} {w : World} {K : PySem.W.Frag} {mg : Str → Option Value} {base : Heap}
theorem b__law_placed (T : Txt P w base K mg) : Binds K T.d__law_placed ["schema", "knowledge"] [] := T.F__law_placed.binds fun _ _ _ _ _ _ us hl => match us, hl with | [_, _], _ => rfl
theorem ok__law_placed (T : Txt P w base K mg) : FnOk P w K mg base CX0 3 T.a__law_placed T.d__law_placed ["schema", "knowledge"] (spW K w__law_placed) := ok_fn (N := N__law_placed) (k := 2) T.F__law_placed sc__law_placed fun cdv A outer s H E hr => 
  (sb_cons (s_asg (e_var (pv 1)) (g_tp rfl (.cons (pg_name sc__law_placed.nd rfl (by first | exact Or.inl rfl | exact Or.inr rfl)) (by rfl) (.cons (pg_name sc__law_placed.nd rfl (by first | exact Or.inl rfl | exact Or.inr rfl)) (by rfl) (.cons (pg_name sc__law_placed.nd rfl (by first | exact Or.inl rfl | exact Or.inr rfl)) (by rfl) (.cons (pg_name sc__law_placed.nd rfl (by first | exact Or.inl rfl | exact Or.inr rfl)) (by rfl) (.cons (pg_name sc__law_placed.nd rfl (by first | exact Or.inl rfl | exact Or.inr rfl)) (by rfl) .nil)))))))
  (sb_cons (s_set (i := 7) sc__law_placed.nd rfl (by first | exact Or.inl rfl | exact Or.inr rfl) (e_call (ok__law_closure T) (hr.mono (by decide)) (by rfl) T.g__law_closure T.F__law_closure.kp (b__law_closure T) (a_name (pv 0) (a_cons (e_op opr_add o_add (b_var (pv 3)) (EE.eb (e_call (ok__law_names T) (hr.mono (by decide)) (by rfl) T.g__law_names T.F__law_names.kp (b__law_names T) (a_name (pv 2) a_nil)))) a_nil))))
  (sb_one (s_ret (e_join (EE.eb e_str) (EE.eb (EF.ee (f_lc (own := [("column", 8)]) (g := (.nm 8)) rfl sc__law_placed.nd (i_seqB (b_var (pv 4))) (blkOk_by (N := N__law_placed) (sc := defScope s__law_placed) (by decide +kernel)) (by simp [Tg.slots]) (fun _ _ _ _ _ => (g_nm sc__law_placed.nd rfl (by first | exact Or.inl rfl | exact Or.inr rfl))) (fun _ _ _ _ _ => (ts_one (t_cmp (opr_in2 (hu64 hr)) o_in2 (b_var (pv 8)) (b_var (pv 7)) (by rfl)))) (fun _ _ _ _ _ => (e_var (pv 8)))))))))))
end
section
variable {P : Program} {w : World} {K : PySem.W.Frag} {mg : Str → Option Value} {base : Heap}
theorem b__law_after (T : Txt P w base K mg) : Binds K T.d__law_after ["schema", "knowledge", "step"] [] := T.F__law_after.binds fun _ _ _ _ _ _ us hl => match us, hl with | [_, _, _], _ => rfl
theorem ok__law_after (T : Txt P w base K mg) : FnOk P w K mg base CX0 5 T.a__law_after T.d__law_after ["schema", "knowledge", "step"] (spW K w__law_after) := ok_fn (N := N__law_after) (k := 4) T.F__law_after sc__law_after fun cdv A outer s H E hr => 
  (sb_cons (s_if (PW.pt (tw_or (t_cmp (op_eq2 (hu64 hr)) o_eq2 (b_var (pv 1)) (EE.eb (e_tup (d_cons e_str d_nil))) (nomark _)) (pw_or1 (t_cmp (opr_in2 (hu64 hr)) o_in2 (EE.eb (e_ix (b_var (pv 2)) (EE.eb e_int) (fun _ _ => rfl))) (EE.eb (EF.ee (f_lst (d_cons e_str (d_cons e_str (d_cons e_str d_nil)))))) (by rfl)))))
  (sb_one (s_ret (e_var (pv 1))))
  sb_nil)
  (sb_cons (s_if (t_cmp (op_eq2 (hu64 hr)) o_eq2 (EE.eb (e_ix (b_var (pv 2)) (EE.eb e_int) (fun _ _ => rfl))) (EE.eb e_str) (nomark _))
  (sb_one (s_ret (e_call (ok__law_after_where T) (hr.mono (by decide)) (by rfl) T.g__law_after_where T.F__law_after_where.kp (b__law_after_where T) (a_name (pv 0) (a_name (pv 1) (a_cons (e_ix (b_var (pv 2)) (EE.eb e_int) (fun _ _ => rfl)) (a_cons (e_ix (b_var (pv 2)) (EE.eb e_int) (fun _ _ => rfl)) a_nil)))))))
  sb_nil)
  (sb_cons (s_if (t_cmp (opr_in2 (hu64 hr)) o_in2 (EE.eb (e_ix (b_var (pv 2)) (EE.eb e_int) (fun _ _ => rfl))) (EE.eb (EF.ee (f_lst (d_cons e_str (d_cons e_str d_nil))))) (by rfl))
  (sb_one (s_ret (e_call (ok__law_after_sort T) (hr.mono (by decide)) (by rfl) T.g__law_after_sort T.F__law_after_sort.kp (b__law_after_sort T) (a_name (pv 1) (a_cons (e_ix (b_var (pv 2)) (EE.eb e_int) (fun _ _ => rfl)) (a_cons (e_ix (b_var (pv 2)) (EE.eb e_int) (fun _ _ => rfl)) a_nil))))))
  sb_nil)
  (sb_cons (s_asg (e_var (pv 1)) (g_tp rfl (.cons (pg_name sc__law_after.nd rfl (by first | exact Or.inl rfl | exact Or.inr rfl)) (by rfl) (.cons (pg_name sc__law_after.nd rfl (by first | exact Or.inl rfl | exact Or.inr rfl)) (by rfl) (.cons (pg_name sc__law_after.nd rfl (by first | exact Or.inl rfl | exact Or.inr rfl)) (by rfl) (.cons (pg_name sc__law_after.nd rfl (by first | exact Or.inl rfl | exact Or.inr rfl)) (by rfl) (.cons (pg_name sc__law_after.nd rfl (by first | exact Or.inl rfl | exact Or.inr rfl)) (by rfl) .nil)))))))
  (sb_cons (s_if (t_cmp (op_eq2 (hu64 hr)) o_eq2 (EE.eb (e_ix (b_var (pv 2)) (EE.eb e_int) (fun _ _ => rfl))) (EE.eb e_str) (nomark _))
  (sb_one (s_ret (e_tup (d_cons (e_var (pv 3)) (d_cons (e_var (pv 4)) (d_cons (e_join (EE.eb e_str) (EE.eb (EF.ee (f_lc (own := [("column", 9)]) (g := (.nm 9)) rfl sc__law_after.nd (i_seqB (b_var (pv 5))) (blkOk_by (N := N__law_after) (sc := defScope s__law_after) (by decide +kernel)) (by simp [Tg.slots]) (fun _ _ _ _ _ => (g_nm sc__law_after.nd rfl (by first | exact Or.inl rfl | exact Or.inr rfl))) (fun _ _ _ _ _ => (ts_one (t_cmp (opr_in2 (hu64 hr)) o_in2 (b_var (pv 9)) (EE.eb (e_ix (b_var (pv 2)) (EE.eb e_int) (fun _ _ => rfl))) (by rfl)))) (fun _ _ _ _ _ => (e_var (pv 9))))))) (d_cons (e_var (pv 6)) (d_cons (e_var (pv 7)) d_nil))))))))
  sb_nil)
  (sb_cons (s_if (t_cmp (op_eq2 (hu64 hr)) o_eq2 (EE.eb (e_ix (b_var (pv 2)) (EE.eb e_int) (fun _ _ => rfl))) (EE.eb e_int) (nomark _))
  (sb_one (s_ret (e_if (t_cmp (op_eq2 (hu64 hr)) o_eq2 (EE.eb (e_ix (b_var (pv 2)) (EE.eb e_int) (fun _ _ => rfl))) (EE.eb e_str) (nomark _)) (e_tup (d_cons e_str d_nil)) (e_var (pv 1)))))
  sb_nil)
  (sb_cons (s_if (PW.pt (tw_and (t_cmp opr_ns o_ns (b_var (pv 7)) (EE.eb e_non) (nomark _)) (pw_and1 (t_cmp op_le o_intB (b_var (pv 7)) (EE.eb (e_ix (b_var (pv 2)) (EE.eb e_int) (fun _ _ => rfl))) (nomark _)))))
  (sb_one (s_ret (e_if (t_cmp (op_eq2 (hu64 hr)) o_eq2 (EE.eb (e_ix (b_var (pv 2)) (EE.eb e_int) (fun _ _ => rfl))) (EE.eb e_str) (nomark _)) (e_var (pv 1)) (e_tup (d_cons e_str d_nil)))))
  sb_nil)
  (sb_cons (s_set (i := 8) sc__law_after.nd rfl (by first | exact Or.inl rfl | exact Or.inr rfl) (e_if (t_cmp (op_eq2 (hu64 hr)) o_eq2 (EE.eb (e_ix (b_var (pv 2)) (EE.eb e_int) (fun _ _ => rfl))) (EE.eb e_str) (nomark _)) (e_ix (b_var (pv 2)) (EE.eb e_int) (fun _ _ => rfl)) (e_if (t_cmp opr_is o_is (b_var (pv 7)) (EE.eb e_non) (nomark _)) e_non (e_op op_sub o_int0 (b_var (pv 7)) (EE.eb (e_ix (b_var (pv 2)) (EE.eb e_int) (fun _ _ => rfl)))))))
  (sb_one (s_ret (e_tup (d_cons (e_var (pv 3)) (d_cons (e_var (pv 4)) (d_cons (e_call (ok__law_placed T) (hr.mono (by decide)) (by rfl) T.g__law_placed T.F__law_placed.kp (b__law_placed T) (a_name (pv 0) (a_name (pv 1) a_nil))) (d_cons (e_var (pv 6)) (d_cons (e_var (pv 8)) d_nil))))))))))))))))
end
section
variable {P : Program} {w : World} {K : PySem.W.Frag} {mg : Str → Option Value} {base : Heap}
theorem b__law_derive (T : Txt P w base K mg) : Binds K T.d__law_derive ["schema", "report"] [] := T.F__law_derive.binds fun _ _ _ _ _ _ us hl => match us, hl with | [_, _], _ => rfl
theorem ok__law_derive (T : Txt P w base K mg) : FnOk P w K mg base CX0 6 T.a__law_derive T.d__law_derive ["schema", "report"] (spW K w__law_derive) := ok_fn (N := N__law_derive) (k := 5) T.F__law_derive sc__law_derive fun cdv A outer s H E hr => 
  (sb_cons (s_setL (i := 2) sc__law_derive.nd rfl (by first | exact Or.inl rfl | exact Or.inr rfl) (f_lst (d_cons (e_tup (d_cons (e_tup d_nil) (d_cons e_str (d_cons (e_ix (b_var (pv 0)) (EE.eb e_int) (fun _ _ => rfl)) (d_cons e_bl (d_cons (e_if (t_tru (EE.eb (e_call (ok__law_is_one T) (hr.mono (by decide)) (by rfl) T.g__law_is_one T.F__law_is_one.kp (b__law_is_one T) (a_name (pv 0) (a_cons e_str a_nil)))) (by intro _; rfl)) e_int e_non) d_nil)))))) d_nil)))
  (sb_cons (s_for PassesOwn.never rfl (i_seq false (e_var (pv 1))) (g_nm sc__law_derive.nd rfl (by first | exact Or.inl rfl | exact Or.inr rfl))
  (sb_one (s_app (pv 2) (e_call (ok__law_after T) (hr.mono (by decide)) (by rfl) T.g__law_after T.F__law_after.kp (b__law_after T) (a_name (pv 0) (a_cons (e_ix (b_var (pv 2)) (EE.eb (e_neg (EE.eb e_int))) (fun _ _ => rfl)) (a_name (pv 3) a_nil)))))))
  (sb_one (s_retN (pv 2)))))
end
section
variable {P : Program} {w : World} {K : PySem.W.Frag} {mg : Str → Option Value} {base : Heap}
theorem b_contains (T : Txt P w base K mg) : Binds K T.d_contains ["columns", "part"] [] := T.F_contains.binds fun _ _ _ _ _ _ us hl => match us, hl with | [_, _], _ => rfl
theorem ok_contains (T : Txt P w base K mg) : FnOk P w K mg base CX0 1 T.a_contains T.d_contains ["columns", "part"] (spW K w_contains) := ok_fn (N := N_contains) (k := 0) T.F_contains sc_contains fun cdv A outer s H E hr => 
  (sb_one (s_ret (e_call1 (cr_all rfl) c_all (by rfl) T.n_all (by decide +kernel) (EE.eb (EF.ee (f_lc (own := [("column", 2)]) (g := (.nm 2)) rfl sc_contains.nd (i_seqB (b_var (pv 1))) (blkOk_by (N := N_contains) (sc := defScope s_contains) (by decide +kernel)) (by simp [Tg.slots]) (fun _ _ _ _ _ => (g_nm sc_contains.nd rfl (by first | exact Or.inl rfl | exact Or.inr rfl))) (fun _ _ _ _ _ => ts_nil) (fun _ _ _ _ _ => (e_cmp (opr_in2 (hu64 hr)) o_in2 (b_var (pv 2)) (b_var (pv 0)) (by rfl)))))))))
end
section
variable {P : Program} {w : World} {K : PySem.W.Frag} {mg : Str → Option Value} {base : Heap}
theorem b__has_key (T : Txt P w base K mg) : Binds K T.d__has_key ["columns", "keys"] [] := T.F__has_key.binds fun _ _ _ _ _ _ us hl => match us, hl with | [_, _], _ => rfl
theorem ok__has_key (T : Txt P w base K mg) : FnOk P w K mg base CX0 2 T.a__has_key T.d__has_key ["columns", "keys"] (spW K w__has_key) := ok_fn (N := N__has_key) (k := 1) T.F__has_key sc__has_key fun cdv A outer s H E hr => 
  (sb_one (s_ret (e_call1 (cr_any rfl) c_any (by rfl) T.n_any (by decide +kernel) (EE.eb (EF.ee (f_lc (own := [("key", 2)]) (g := (.nm 2)) rfl sc__has_key.nd (i_seqB (b_var (pv 1))) (blkOk_by (N := N__has_key) (sc := defScope s__has_key) (by decide +kernel)) (by simp [Tg.slots]) (fun _ _ _ _ _ => (g_nm sc__has_key.nd rfl (by first | exact Or.inl rfl | exact Or.inr rfl))) (fun _ _ _ _ _ => ts_nil) (fun _ _ _ _ _ => (e_call (ok_contains T) (hr.mono (by decide)) (by rfl) T.g_contains T.F_contains.kp (b_contains T) (a_name (pv 0) (a_name (pv 2) a_nil))))))))))
end
section
variable {P : Program} {w : World} {K : PySem.W.Frag} {mg : Str → Option Value} {base : Heap}
theorem b_common (T : Txt P w base K mg) : Binds K T.d_common ["columns", "names"] [] := T.F_common.binds fun _ _ _ _ _ _ us hl => match us, hl with | [_, _], _ => rfl
theorem ok_common (T : Txt P w base K mg) : FnOk P w K mg base CX0 1 T.a_common T.d_common ["columns", "names"] (spW K w_common) := ok_fn (N := N_common) (k := 0) T.F_common sc_common fun cdv A outer s H E hr => 
  (sb_one (s_ret (e_join (EE.eb e_str) (EE.eb (EF.ee (f_lc (own := [("column", 2)]) (g := (.nm 2)) rfl sc_common.nd (i_seqB (b_var (pv 0))) (blkOk_by (N := N_common) (sc := defScope s_common) (by decide +kernel)) (by simp [Tg.slots]) (fun _ _ _ _ _ => (g_nm sc_common.nd rfl (by first | exact Or.inl rfl | exact Or.inr rfl))) (fun _ _ _ _ _ => (ts_one (t_cmp (opr_in2 (hu64 hr)) o_in2 (b_var (pv 2)) (b_var (pv 1)) (by rfl)))) (fun _ _ _ _ _ => (e_var (pv 2)))))))))
end
section
variable {P : Program} {w : World} {K : PySem.W.Frag} {mg : Str → Option Value} {base : Heap}
theorem b__closure_round (T : Txt P w base K mg) : Binds K T.d__closure_round ["schema", "found"] [] := T.F__closure_round.binds fun _ _ _ _ _ _ us hl => match us, hl with | [_, _], _ => rfl
theorem ok__closure_round (T : Txt P w base K mg) : FnOk P w K mg base CX0 3 T.a__closure_round T.d__closure_round ["schema", "found"] (spW K w__closure_round) := ok_fn (N := N__closure_round) (k := 2) T.F__closure_round sc__closure_round fun cdv A outer s H E hr => 
  (sb_cons (s_asg (e_var (pv 0)) (g_tp rfl (.cons (pg_name sc__closure_round.nd rfl (by first | exact Or.inl rfl | exact Or.inr rfl)) (by rfl) (.cons (pg_name sc__closure_round.nd rfl (by first | exact Or.inl rfl | exact Or.inr rfl)) (by rfl) (.cons (pg_name sc__closure_round.nd rfl (by first | exact Or.inl rfl | exact Or.inr rfl)) (by rfl) .nil)))))
  (sb_cons (s_if (t_tru (EE.eb (e_call (ok__has_key T) (hr.mono (by decide)) (by rfl) T.g__has_key T.F__has_key.kp (b__has_key T) (a_name (pv 1) (a_name (pv 4) a_nil)))) (by intro _; rfl))
  (sb_one (s_ret (e_var (pv 2))))
  sb_nil)
  (sb_cons (s_setLc (i := 5) (own := [("left", 6), ("right", 7)]) (g := (.tp [6, 7])) rfl sc__closure_round.nd rfl rfl (sw_true rfl rfl rfl (by decide +kernel)) (i_seqB (b_var (pv 3))) (blkOk_by (N := N__closure_round) (sc := defScope s__closure_round) (by decide +kernel)) (by simp [Tg.slots]) (fun _ _ _ _ _ => (g_tp rfl (.cons (pg_name sc__closure_round.nd rfl (by first | exact Or.inl rfl | exact Or.inr rfl)) (by rfl) (.cons (pg_name sc__closure_round.nd rfl (by first | exact Or.inl rfl | exact Or.inr rfl)) (by rfl) .nil)))) (fun _ _ _ _ _ => (ts_one (t_tru (EE.eb (e_call (ok_contains T) (hr.mono (by decide)) (by rfl) T.g_contains T.F_contains.kp (b_contains T) (a_name (pv 1) (a_name (pv 6) a_nil)))) (by intro _; rfl)))) (fun _ _ _ _ _ => (e_var (pv 7))))
  (sb_one (s_ret (e_call (ok_common T) (hr.mono (by decide)) (by rfl) T.g_common T.F_common.kp (b_common T) (a_name (pv 2) (a_cons (e_op opr_add o_add (b_var (pv 1)) (EE.eb (e_join (EE.eb e_str) (b_var (pv 5))))) a_nil))))))))
end
section
variable {P : Program} {w : World} {K : PySem.W.Frag} {mg : Str → Option Value} {base : Heap}
theorem b_closure (T : Txt P w base K mg) : Binds K T.d_closure ["schema", "columns"] [] := T.F_closure.binds fun _ _ _ _ _ _ us hl => match us, hl with | [_, _], _ => rfl
theorem ok_closure (T : Txt P w base K mg) : FnOk P w K mg base CX0 4 T.a_closure T.d_closure ["schema", "columns"] (spW K w_closure) := ok_fn (N := N_closure) (k := 3) T.F_closure sc_closure fun cdv A outer s H E hr => 
  (sb_cons (s_set (i := 2) sc_closure.nd rfl (by first | exact Or.inl rfl | exact Or.inr rfl) (e_var (pv 1)))
  (sb_cons (s_for PassesOwn.never rfl (i_seq false (e_ix (b_var (pv 0)) (EE.eb e_int) (fun _ _ => rfl))) (g_nm sc_closure.nd rfl (by first | exact Or.inl rfl | exact Or.inr rfl))
  (sb_one (s_set (i := 2) sc_closure.nd rfl (by first | exact Or.inl rfl | exact Or.inr rfl) (e_call (ok__closure_round T) (hr.mono (by decide)) (by rfl) T.g__closure_round T.F__closure_round.kp (b__closure_round T) (a_name (pv 0) (a_name (pv 2) a_nil))))))
  (sb_one (s_ret (e_var (pv 2))))))
end
section
variable {P : Program} {w : World} {K : PySem.W.Frag} {mg : Str → Option Value} {base : Heap}
theorem b_is_unique (T : Txt P w base K mg) : Binds K T.d_is_unique ["schema", "columns"] [] := T.F_is_unique.binds fun _ _ _ _ _ _ us hl => match us, hl with | [_, _], _ => rfl
theorem ok_is_unique (T : Txt P w base K mg) : FnOk P w K mg base CX0 5 T.a_is_unique T.d_is_unique ["schema", "columns"] (spW K w_is_unique) := ok_fn (N := N_is_unique) (k := 4) T.F_is_unique sc_is_unique fun cdv A outer s H E hr => 
  (sb_one (s_ret (e_call (ok__has_key T) (hr.mono (by decide)) (by rfl) T.g__has_key T.F__has_key.kp (b__has_key T) (a_cons (e_call (ok_closure T) (hr.mono (by decide)) (by rfl) T.g_closure T.F_closure.kp (b_closure T) (a_name (pv 0) (a_name (pv 1) a_nil))) (a_cons (e_ix (b_var (pv 0)) (EE.eb e_int) (fun _ _ => rfl)) a_nil)))))
end
section
variable {P : Program} {w : World} {K : PySem.W.Frag} {mg : Str → Option Value} {base : Heap}
theorem b_start_knowledge (T : Txt P w base K mg) : Binds K T.d_start_knowledge ["schema"] [] := T.F_start_knowledge.binds fun _ _ _ _ _ _ us hl => match us, hl with | [_], _ => rfl
theorem ok_start_knowledge (T : Txt P w base K mg) : FnOk P w K mg base CX0 6 T.a_start_knowledge T.d_start_knowledge ["schema"] (spW K w_start_knowledge) := ok_fn (N := N_start_knowledge) (k := 5) T.F_start_knowledge sc_start_knowledge fun cdv A outer s H E hr => 
  (sb_cons (s_set (i := 1) sc_start_knowledge.nd rfl (by first | exact Or.inl rfl | exact Or.inr rfl) (e_if (t_tru (EE.eb (e_call (ok_is_unique T) (hr.mono (by decide)) (by rfl) T.g_is_unique T.F_is_unique.kp (b_is_unique T) (a_name (pv 0) (a_cons e_str a_nil)))) (by intro _; rfl)) e_int e_non))
  (sb_one (s_ret (e_tup (d_cons (e_tup d_nil) (d_cons e_str (d_cons (e_ix (b_var (pv 0)) (EE.eb e_int) (fun _ _ => rfl)) (d_cons e_bl (d_cons (e_var (pv 1)) d_nil)))))))))
end
section
variable {P : Program} {w : World} {K : PySem.W.Frag} {mg : Str → Option Value} {base : Heap}
theorem b__after_where (T : Txt P w base K mg) : Binds K T.d__after_where ["schema", "knowledge", "column", "worth"] [] := T.F__after_where.binds fun _ _ _ _ _ _ us hl => match us, hl with | [_, _, _, _], _ => rfl
theorem ok__after_where (T : Txt P w base K mg) : FnOk P w K mg base CX0 6 T.a__after_where T.d__after_where ["schema", "knowledge", "column", "worth"] (spW K w__after_where) := ok_fn (N := N__after_where) (k := 5) T.F__after_where sc__after_where fun cdv A outer s H E hr => 
  (sb_cons (s_asg (e_var (pv 1)) (g_tp rfl (.cons (pg_name sc__after_where.nd rfl (by first | exact Or.inl rfl | exact Or.inr rfl)) (by rfl) (.cons (pg_name sc__after_where.nd rfl (by first | exact Or.inl rfl | exact Or.inr rfl)) (by rfl) (.cons (pg_name sc__after_where.nd rfl (by first | exact Or.inl rfl | exact Or.inr rfl)) (by rfl) (.cons (pg_name sc__after_where.nd rfl (by first | exact Or.inl rfl | exact Or.inr rfl)) (by rfl) (.cons (pg_name sc__after_where.nd rfl (by first | exact Or.inl rfl | exact Or.inr rfl)) (by rfl) .nil)))))))
  (sb_cons (s_dictK (i := 9) rfl sc__after_where.nd rfl (by first | exact Or.inl rfl | exact Or.inr rfl) (by rfl) T.n_dict (b_var (pv 4)))
  (sb_cons (s_if (t_kin (i := 9) (hu64 hr) (pv 9) (b_var (pv 2)) (by rfl))
  (sb_one (s_ret (e_if (t_cmp (op_eq2 (hu64 hr)) o_eq2 (EE.eb (e_kget (i := 9) (hu64 hr) (pv 9) (b_var (pv 2)) (fun _ _ => rfl))) (b_var (pv 3)) (nomark _)) (e_var (pv 1)) (e_glo (by rfl) T.k_EMPTY (fun _ => rv_EMPTY T)))))
  sb_nil)
  (sb_cons (s_kset (i := 9) (hu64 hr) (pv 9) (e_var (pv 3)) (b_var (pv 2)))
  (sb_cons (s_if (t_cmp (opr_ni2 (hu64 hr)) o_ni2 (b_var (pv 2)) (b_var (pv 6)) (by rfl))
  (sb_one (s_asg (e_tup (d_cons e_str (d_cons e_bl d_nil))) (g_tp rfl (.cons (pg_name sc__after_where.nd rfl (by first | exact Or.inl rfl | exact Or.inr rfl)) (by rfl) (.cons (pg_name sc__after_where.nd rfl (by first | exact Or.inl rfl | exact Or.inr rfl)) (by rfl) .nil)))))
  sb_nil)
  (sb_cons (s_if (t_tru (EE.eb (e_call (ok_is_unique T) (hr.mono (by decide)) (by rfl) T.g_is_unique T.F_is_unique.kp (b_is_unique T) (a_name (pv 0) (a_cons (e_call (ok_common T) (hr.mono (by decide)) (by rfl) T.g_common T.F_common.kp (b_common T) (a_cons (e_ix (b_var (pv 0)) (EE.eb e_int) (fun _ _ => rfl)) (a_cons (EF.ee (f_klist (i := 9) rfl (by rfl) T.n_list (pv 9))) a_nil))) a_nil)))) (by intro _; rfl))
  (sb_one (s_set (i := 8) sc__after_where.nd rfl (by first | exact Or.inl rfl | exact Or.inr rfl) e_int))
  sb_nil)
  (sb_one (s_ret (e_tup (d_cons (e_ty1 (call_tupA rfl) c_tupA (by rfl) T.n_tuple (by decide +kernel) (EE.eb (EF.ee (f_ksort (i := 9) (hu64 hr) rfl (by rfl) T.n_sorted (pv 9))))) (d_cons (e_var (pv 5)) (d_cons (e_var (pv 6)) (d_cons (e_var (pv 7)) (d_cons (e_var (pv 8)) d_nil))))))))))))))
end
section
variable {P : Program} {w : World} {K : PySem.W.Frag} {mg : Str → Option Value} {base : Heap}
theorem b__known_beginning (T : Txt P w base K mg) : Binds K T.d__known_beginning ["known", "columns"] [] := T.F__known_beginning.binds fun _ _ _ _ _ _ us hl => match us, hl with | [_, _], _ => rfl
theorem ok__known_beginning (T : Txt P w base K mg) : FnOk P w K mg base CX0 1 T.a__known_beginning T.d__known_beginning ["known", "columns"] (spW K w__known_beginning) := ok_fn (N := N__known_beginning) (k := 0) T.F__known_beginning sc__known_beginning fun cdv A outer s H E hr => 
  (sb_cons (s_for PassesOwn.never rfl (i_enumT false (by rfl) T.n_enumerate (e_var (pv 1))) (g_tp rfl (.cons (pg_name sc__known_beginning.nd rfl (by first | exact Or.inl rfl | exact Or.inr rfl)) (by rfl) (.cons (pg_name sc__known_beginning.nd rfl (by first | exact Or.inl rfl | exact Or.inr rfl)) (by rfl) .nil)))
  (sb_one (s_if (t_cmp (opr_ni2 (hu64 hr)) o_ni2 (b_var (pv 3)) (b_var (pv 0)) (by rfl))
  (sb_one (s_ret (e_sl (b_var (pv 1)) o_none (o_some (b_var (pv 2))))))
  sb_nil)))
  (sb_one (s_ret (e_var (pv 1)))))
end
section
variable {P : Program} {w : World} {K : PySem.W.Frag} {mg : Str → Option Value} {base : Heap}
theorem b__after_sorting (T : Txt P w base K mg) : Binds K T.d__after_sorting ["knowledge", "kind", "columns"] [] := T.F__after_sorting.binds fun _ _ _ _ _ _ us hl => match us, hl with | [_, _, _], _ => rfl
theorem ok__after_sorting (T : Txt P w base K mg) : FnOk P w K mg base CX0 2 T.a__after_sorting T.d__after_sorting ["knowledge", "kind", "columns"] (spW K w__after_sorting) := ok_fn (N := N__after_sorting) (k := 1) T.F__after_sorting sc__after_sorting fun cdv A outer s H E hr => 
  (sb_cons (s_asg (e_var (pv 0)) (g_tp rfl (.cons (pg_name sc__after_sorting.nd rfl (by first | exact Or.inl rfl | exact Or.inr rfl)) (by rfl) (.cons (pg_name sc__after_sorting.nd rfl (by first | exact Or.inl rfl | exact Or.inr rfl)) (by rfl) (.cons (pg_name sc__after_sorting.nd rfl (by first | exact Or.inl rfl | exact Or.inr rfl)) (by rfl) (.cons (pg_name sc__after_sorting.nd rfl (by first | exact Or.inl rfl | exact Or.inr rfl)) (by rfl) (.cons (pg_name sc__after_sorting.nd rfl (by first | exact Or.inl rfl | exact Or.inr rfl)) (by rfl) .nil)))))))
  (sb_cons (s_set (i := 8) sc__after_sorting.nd rfl (by first | exact Or.inl rfl | exact Or.inr rfl) (e_call (ok__known_beginning T) (hr.mono (by decide)) (by rfl) T.g__known_beginning T.F__known_beginning.kp (b__known_beginning T) (a_name (pv 5) (a_name (pv 2) a_nil))))
  (sb_cons (s_if (PW.pt (tw_and (t_cmp (op_eq2 (hu64 hr)) o_eq2 (b_var (pv 1)) (EE.eb e_str) (nomark _)) (pw_and1 (t_cmp (op_eq2 (hu64 hr)) o_eq2 (b_var (pv 8)) (b_var (pv 2)) (nomark _)))))
  (sb_one (s_set (i := 8) sc__after_sorting.nd rfl (by first | exact Or.inl rfl | exact Or.inr rfl) (e_op opr_add o_add (b_var (pv 2)) (EE.eb (e_join (EE.eb e_str) (EE.eb (EF.ee (f_lc (own := [("column", 9)]) (g := (.nm 9)) rfl sc__after_sorting.nd (i_seqB (b_var (pv 4))) (blkOk_by (N := N__after_sorting) (sc := defScope s__after_sorting) (by decide +kernel)) (by simp [Tg.slots]) (fun _ _ _ _ _ => (g_nm sc__after_sorting.nd rfl (by first | exact Or.inl rfl | exact Or.inr rfl))) (fun _ _ _ _ _ => (ts_one (t_cmp (opr_ni2 (hu64 hr)) o_ni2 (b_var (pv 9)) (b_var (pv 2)) (by rfl)))) (fun _ _ _ _ _ => (e_var (pv 9)))))))))))
  sb_nil)
  (sb_one (s_ret (e_tup (d_cons (e_var (pv 3)) (d_cons (e_var (pv 8)) (d_cons (e_var (pv 5)) (d_cons (e_var (pv 6)) (d_cons (e_var (pv 7)) d_nil)))))))))))
end
section
variable {P : Program} {w : World} {K : PySem.W.Frag} {mg : Str → Option Value} {base : Heap}
theorem b_determined (T : Txt P w base K mg) : Binds K T.d_determined ["schema", "knowledge", "columns"] [] := T.F_determined.binds fun _ _ _ _ _ _ us hl => match us, hl with | [_, _, _], _ => rfl
theorem ok_determined (T : Txt P w base K mg) : FnOk P w K mg base CX0 5 T.a_determined T.d_determined ["schema", "knowledge", "columns"] (spW K w_determined) := ok_fn (N := N_determined) (k := 4) T.F_determined sc_determined fun cdv A outer s H E hr => 
  (sb_cons (s_asg (e_sl (b_var (pv 1)) o_none (o_some (EE.eb e_int))) (g_tp rfl (.cons (pg_name sc_determined.nd rfl (by first | exact Or.inl rfl | exact Or.inr rfl)) (by rfl) (.cons (pg_name sc_determined.nd rfl (by first | exact Or.inl rfl | exact Or.inr rfl)) (by rfl) .nil))))
  (sb_cons (s_set (i := 5) sc_determined.nd rfl (by first | exact Or.inl rfl | exact Or.inr rfl) (e_op opr_add o_add (EE.eb (e_op opr_add o_add (EE.eb (e_join (EE.eb e_str) (EE.eb (EF.ee (f_lc (own := [("column", 6), ("_", 7)]) (g := (.tp [6, 7])) rfl sc_determined.nd (i_seqB (b_var (pv 3))) (blkOk_by (N := N_determined) (sc := defScope s_determined) (by decide +kernel)) (by simp [Tg.slots]) (fun _ _ _ _ _ => (g_tp rfl (.cons (pg_name sc_determined.nd rfl (by first | exact Or.inl rfl | exact Or.inr rfl)) (by rfl) (.cons (pg_name sc_determined.nd rfl (by first | exact Or.inl rfl | exact Or.inr rfl)) (by rfl) .nil)))) (fun _ _ _ _ _ => ts_nil) (fun _ _ _ _ _ => (e_var (pv 6)))))))) (b_var (pv 4)))) (b_var (pv 2))))
  (sb_one (s_ret (e_call (ok_closure T) (hr.mono (by decide)) (by rfl) T.g_closure T.F_closure.kp (b_closure T) (a_name (pv 0) (a_cons (e_call (ok_common T) (hr.mono (by decide)) (by rfl) T.g_common T.F_common.kp (b_common T) (a_cons (e_ix (b_var (pv 0)) (EE.eb e_int) (fun _ _ => rfl)) (a_name (pv 5) a_nil))) a_nil)))))))
end
section
variable {P : Program} {w : World} {K : PySem.W.Frag} {mg : Str → Option Value} {base : Heap}
theorem b__placed (T : Txt P w base K mg) : Binds K T.d__placed ["schema", "knowledge"] [] := T.F__placed.binds fun _ _ _ _ _ _ us hl => match us, hl with | [_, _], _ => rfl
theorem ok__placed (T : Txt P w base K mg) : FnOk P w K mg base CX0 6 T.a__placed T.d__placed ["schema", "knowledge"] (spW K w__placed) := ok_fn (N := N__placed) (k := 5) T.F__placed sc__placed fun cdv A outer s H E hr => 
  (sb_one (s_ret (e_call (ok_common T) (hr.mono (by decide)) (by rfl) T.g_common T.F_common.kp (b_common T) (a_cons (e_ix (b_var (pv 1)) (EE.eb e_int) (fun _ _ => rfl)) (a_cons (e_call (ok_determined T) (hr.mono (by decide)) (by rfl) T.g_determined T.F_determined.kp (b_determined T) (a_name (pv 0) (a_name (pv 1) (a_cons e_str a_nil)))) a_nil)))))
end
section
variable {P : Program} {w : World} {K : PySem.W.Frag} {mg : Str → Option Value} {base : Heap}
theorem b__after_first (T : Txt P w base K mg) : Binds K T.d__after_first ["schema", "knowledge", "count"] [] := T.F__after_first.binds fun _ _ _ _ _ _ us hl => match us, hl with | [_, _, _], _ => rfl
theorem ok__after_first (T : Txt P w base K mg) : FnOk P w K mg base CX0 7 T.a__after_first T.d__after_first ["schema", "knowledge", "count"] (spW K w__after_first) := ok_fn (N := N__after_first) (k := 6) T.F__after_first sc__after_first fun cdv A outer s H E hr => 
  (sb_cons (s_asg (e_var (pv 1)) (g_tp rfl (.cons (pg_name sc__after_first.nd rfl (by first | exact Or.inl rfl | exact Or.inr rfl)) (by rfl) (.cons (pg_name sc__after_first.nd rfl (by first | exact Or.inl rfl | exact Or.inr rfl)) (by rfl) (.cons (pg_name sc__after_first.nd rfl (by first | exact Or.inl rfl | exact Or.inr rfl)) (by rfl) (.cons (pg_name sc__after_first.nd rfl (by first | exact Or.inl rfl | exact Or.inr rfl)) (by rfl) (.cons (pg_name sc__after_first.nd rfl (by first | exact Or.inl rfl | exact Or.inr rfl)) (by rfl) .nil)))))))
  (sb_cons (s_if (t_cmp (op_eq2 (hu64 hr)) o_eq2 (b_var (pv 2)) (EE.eb e_int) (nomark _))
  (sb_one (s_ret (e_glo (by rfl) T.k_EMPTY (fun _ => rv_EMPTY T))))
  sb_nil)
  (sb_cons (s_if (PW.pt (tw_and (t_cmp opr_ns o_ns (b_var (pv 7)) (EE.eb e_non) (nomark _)) (pw_and1 (t_cmp op_le o_intB (b_var (pv 7)) (b_var (pv 2)) (nomark _)))))
  (sb_one (s_ret (e_var (pv 1))))
  sb_nil)
  (sb_one (s_ret (e_tup (d_cons (e_var (pv 3)) (d_cons (e_var (pv 4)) (d_cons (e_call (ok__placed T) (hr.mono (by decide)) (by rfl) T.g__placed T.F__placed.kp (b__placed T) (a_name (pv 0) (a_name (pv 1) a_nil))) (d_cons (e_var (pv 6)) (d_cons (e_var (pv 2)) d_nil)))))))))))
end
section
variable {P : Program} {w : World} {K : PySem.W.Frag} {mg : Str → Option Value} {base : Heap}
theorem b__after_skip (T : Txt P w base K mg) : Binds K T.d__after_skip ["schema", "knowledge", "count"] [] := T.F__after_skip.binds fun _ _ _ _ _ _ us hl => match us, hl with | [_, _, _], _ => rfl
theorem ok__after_skip (T : Txt P w base K mg) : FnOk P w K mg base CX0 7 T.a__after_skip T.d__after_skip ["schema", "knowledge", "count"] (spW K w__after_skip) := ok_fn (N := N__after_skip) (k := 6) T.F__after_skip sc__after_skip fun cdv A outer s H E hr => 
  (sb_cons (s_asg (e_var (pv 1)) (g_tp rfl (.cons (pg_name sc__after_skip.nd rfl (by first | exact Or.inl rfl | exact Or.inr rfl)) (by rfl) (.cons (pg_name sc__after_skip.nd rfl (by first | exact Or.inl rfl | exact Or.inr rfl)) (by rfl) (.cons (pg_name sc__after_skip.nd rfl (by first | exact Or.inl rfl | exact Or.inr rfl)) (by rfl) (.cons (pg_name sc__after_skip.nd rfl (by first | exact Or.inl rfl | exact Or.inr rfl)) (by rfl) (.cons (pg_name sc__after_skip.nd rfl (by first | exact Or.inl rfl | exact Or.inr rfl)) (by rfl) .nil)))))))
  (sb_cons (s_if (t_cmp (op_eq2 (hu64 hr)) o_eq2 (b_var (pv 2)) (EE.eb e_int) (nomark _))
  (sb_one (s_ret (e_var (pv 1))))
  sb_nil)
  (sb_cons (s_if (t_cmp opr_is o_is (b_var (pv 7)) (EE.eb e_non) (nomark _))
  (sb_one (s_ret (e_tup (d_cons (e_var (pv 3)) (d_cons (e_var (pv 4)) (d_cons (e_call (ok__placed T) (hr.mono (by decide)) (by rfl) T.g__placed T.F__placed.kp (b__placed T) (a_name (pv 0) (a_name (pv 1) a_nil))) (d_cons (e_var (pv 6)) (d_cons e_non d_nil))))))))
  sb_nil)
  (sb_cons (s_if (t_cmp op_le o_intB (b_var (pv 7)) (b_var (pv 2)) (nomark _))
  (sb_one (s_ret (e_glo (by rfl) T.k_EMPTY (fun _ => rv_EMPTY T))))
  sb_nil)
  (sb_one (s_ret (e_tup (d_cons (e_var (pv 3)) (d_cons (e_var (pv 4)) (d_cons (e_call (ok__placed T) (hr.mono (by decide)) (by rfl) T.g__placed T.F__placed.kp (b__placed T) (a_name (pv 0) (a_name (pv 1) a_nil))) (d_cons (e_var (pv 6)) (d_cons (e_op op_sub o_int0 (b_var (pv 7)) (b_var (pv 2))) d_nil))))))))))))
end
section
variable {P : Program} {w : World} {K : PySem.W.Frag} {mg : Str → Option Value} {base : Heap}
theorem b_knowledge_after (T : Txt P w base K mg) : Binds K T.d_knowledge_after ["schema", "knowledge", "step"] [] := T.F_knowledge_after.binds fun _ _ _ _ _ _ us hl => match us, hl with | [_, _, _], _ => rfl
theorem ok_knowledge_after (T : Txt P w base K mg) : FnOk P w K mg base CX0 8 T.a_knowledge_after T.d_knowledge_after ["schema", "knowledge", "step"] (spW K w_knowledge_after) := ok_fn (N := N_knowledge_after) (k := 7) T.F_knowledge_after sc_knowledge_after fun cdv A outer s H E hr => 
  (sb_cons (s_set (i := 3) sc_knowledge_after.nd rfl (by first | exact Or.inl rfl | exact Or.inr rfl) (e_ix (b_var (pv 2)) (EE.eb e_int) (fun _ _ => rfl)))
  (sb_cons (s_if (PW.pt (tw_or (t_cmp (op_eq2 (hu64 hr)) o_eq2 (b_var (pv 1)) (EE.eb (e_glo (by rfl) T.k_EMPTY (fun _ => rv_EMPTY T))) (nomark _)) (pw_or1 (t_cmp (opr_in2 (hu64 hr)) o_in2 (b_var (pv 3)) (EE.eb (e_glo (by rfl) T.k_GROUPING (fun _ => rv_GROUPING T))) (by rfl)))))
  (sb_one (s_ret (e_var (pv 1))))
  sb_nil)
  (sb_cons (s_if (t_cmp (op_eq2 (hu64 hr)) o_eq2 (b_var (pv 3)) (EE.eb e_str) (nomark _))
  (sb_one (s_ret (e_call (ok__after_where T) (hr.mono (by decide)) (by rfl) T.g__after_where T.F__after_where.kp (b__after_where T) (a_name (pv 0) (a_name (pv 1) (a_cons (e_ix (b_var (pv 2)) (EE.eb e_int) (fun _ _ => rfl)) (a_cons (e_ix (b_var (pv 2)) (EE.eb e_int) (fun _ _ => rfl)) a_nil)))))))
  sb_nil)
  (sb_cons (s_if (t_cmp (opr_in2 (hu64 hr)) o_in2 (b_var (pv 3)) (EE.eb (e_glo (by rfl) T.k_SORTING (fun _ => rv_SORTING T))) (by rfl))
  (sb_one (s_ret (e_call (ok__after_sorting T) (hr.mono (by decide)) (by rfl) T.g__after_sorting T.F__after_sorting.kp (b__after_sorting T) (a_name (pv 1) (a_name (pv 3) (a_cons (e_ix (b_var (pv 2)) (EE.eb e_int) (fun _ _ => rfl)) a_nil))))))
  sb_nil)
  (sb_cons (s_if (t_cmp (op_eq2 (hu64 hr)) o_eq2 (b_var (pv 3)) (EE.eb e_str) (nomark _))
  (sb_one (s_ret (e_call (ok__after_first T) (hr.mono (by decide)) (by rfl) T.g__after_first T.F__after_first.kp (b__after_first T) (a_name (pv 0) (a_name (pv 1) (a_cons (e_ix (b_var (pv 2)) (EE.eb e_int) (fun _ _ => rfl)) a_nil))))))
  sb_nil)
  (sb_cons (s_if (t_cmp (op_eq2 (hu64 hr)) o_eq2 (b_var (pv 3)) (EE.eb e_str) (nomark _))
  (sb_one (s_ret (e_call (ok__after_skip T) (hr.mono (by decide)) (by rfl) T.g__after_skip T.F__after_skip.kp (b__after_skip T) (a_name (pv 0) (a_name (pv 1) (a_cons (e_ix (b_var (pv 2)) (EE.eb e_int) (fun _ _ => rfl)) a_nil))))))
  sb_nil)
  (sb_cons (s_asg (e_var (pv 1)) (g_tp rfl (.cons (pg_name sc_knowledge_after.nd rfl (by first | exact Or.inl rfl | exact Or.inr rfl)) (by rfl) (.cons (pg_name sc_knowledge_after.nd rfl (by first | exact Or.inl rfl | exact Or.inr rfl)) (by rfl) (.cons (pg_name sc_knowledge_after.nd rfl (by first | exact Or.inl rfl | exact Or.inr rfl)) (by rfl) (.cons (pg_name sc_knowledge_after.nd rfl (by first | exact Or.inl rfl | exact Or.inr rfl)) (by rfl) (.cons (pg_name sc_knowledge_after.nd rfl (by first | exact Or.inl rfl | exact Or.inr rfl)) (by rfl) .nil)))))))
  (sb_one (s_ret (e_tup (d_cons (e_var (pv 4)) (d_cons (e_var (pv 5)) (d_cons (e_call (ok_common T) (hr.mono (by decide)) (by rfl) T.g_common T.F_common.kp (b_common T) (a_name (pv 6) (a_cons (e_ix (b_var (pv 2)) (EE.eb e_int) (fun _ _ => rfl)) a_nil))) (d_cons (e_var (pv 7)) (d_cons (e_var (pv 8)) d_nil)))))))))))))))
end
section
variable {P : Program} {w : World} {K : PySem.W.Frag} {mg : Str → Option Value} {base : Heap}
theorem b_derive (T : Txt P w base K mg) : Binds K T.d_derive ["schema", "report"] [] := T.F_derive.binds fun _ _ _ _ _ _ us hl => match us, hl with | [_, _], _ => rfl
theorem ok_derive (T : Txt P w base K mg) : FnOk P w K mg base CX0 9 T.a_derive T.d_derive ["schema", "report"] (spO K w_derive) := ok_fnO (N := N_derive) (k := 8) T.F_derive sc_derive fun cdv A outer s H E hr => 
  (sb_cons (s_setL (i := 2) sc_derive.nd rfl (by first | exact Or.inl rfl | exact Or.inr rfl) (f_lst (d_cons (e_call (ok_start_knowledge T) (hr.mono (by decide)) (by rfl) T.g_start_knowledge T.F_start_knowledge.kp (b_start_knowledge T) (a_name (pv 0) a_nil)) d_nil)))
  (sb_cons (s_for PassesOwn.never rfl (i_seq false (e_var (pv 1))) (g_nm sc_derive.nd rfl (by first | exact Or.inl rfl | exact Or.inr rfl))
  (sb_one (s_app (pv 2) (e_call (ok_knowledge_after T) (hr.mono (by decide)) (by rfl) T.g_knowledge_after T.F_knowledge_after.kp (b_knowledge_after T) (a_name (pv 0) (a_cons (e_ix (b_var (pv 2)) (EE.eb (e_neg (EE.eb e_int))) (fun _ _ => rfl)) (a_name (pv 3) a_nil)))))))
  (sb_one (s_retO (pv 2)))))
end
section
variable {P : Program} {w : World} {K : PySem.W.Frag} {mg : Str → Option Value} {base : Heap}
theorem b__law_same (T : Txt P w base K mg) : Binds K T.d__law_same ["found", "due"] [] := T.F__law_same.binds fun _ _ _ _ _ _ us hl => match us, hl with | [_, _], _ => rfl
theorem ok__law_same (T : Txt P w base K mg) : ∀ d : Nat, FnOk P w K mg base CX0 (d + 1) T.a__law_same T.d__law_same ["found", "due"] (spW K (w__law_same d))
  | 0 => ⟨fun vs H Q E ⟨_, _, _, _, _, _, _, h, _⟩ => h.elim, fun A outer s H args us vs Q E _ _ _ _ ⟨_, _, _, _, _, _, _, h, _⟩ => h.elim⟩
  | d + 1 => ok_fn (N := N__law_same) (k := d + 1) T.F__law_same sc__law_same fun cdv A outer s H E hr => 
  have G := ok__law_same T d
  (sb_cons (s_if (PW.pt (tw_or (t_cmp opr_is o_is (b_var (pv 1)) (EE.eb e_non) (nomark _)) (pw_or1 (t_cmp opr_is o_is (b_var (pv 0)) (EE.eb e_non) (nomark _)))))
  (sb_one (s_ret (e_and (e_cmp opr_is o_is (b_var (pv 1)) (EE.eb e_non) (nomark _)) (e_one (e_cmp opr_is o_is (b_var (pv 0)) (EE.eb e_non) (nomark _))))))
  sb_nil)
  (sb_cons (s_if (PW.pt (tw_or (t_tru (EE.eb (e_isi kit_bool (by rfl) T.n_isinstance (b_var (pv 1)) (pe_bltn (by rfl) T.n_bool (by decide +kernel) rfl))) (by intro _; rfl)) (pw_or1 (t_tru (EE.eb (e_isi kit_bool (by rfl) T.n_isinstance (b_var (pv 0)) (pe_bltn (by rfl) T.n_bool (by decide +kernel) rfl))) (by intro _; rfl)))))
  (sb_one (s_ret (e_and (e_isi kit_bool (by rfl) T.n_isinstance (b_var (pv 1)) (pe_bltn (by rfl) T.n_bool (by decide +kernel) rfl)) (e_and (e_isi kit_bool (by rfl) T.n_isinstance (b_var (pv 0)) (pe_bltn (by rfl) T.n_bool (by decide +kernel) rfl)) (e_one (e_cmp (op_eq2 (hu64 hr)) o_eq2 (b_var (pv 0)) (b_var (pv 1)) (nomark _)))))))
  sb_nil)
  (sb_cons (s_if (t_tru (EE.eb (e_isiT (.cons kit_int (pe_bltn (by rfl) T.n_int (by decide +kernel) rfl) (by rfl) (.cons kit_str (pe_bltn (by rfl) T.n_str (by decide +kernel) rfl) (by rfl) .nil)) (by decide) (by rfl) T.n_isinstance (b_var (pv 1)))) (by intro _; rfl))
  (sb_cons (s_if (t_cmp (opr_ne2 (hu64 hr)) o_ne2 (EE.eb (e_isi kit_int (by rfl) T.n_isinstance (b_var (pv 0)) (pe_bltn (by rfl) T.n_int (by decide +kernel) rfl))) (EE.eb (e_isi kit_int (by rfl) T.n_isinstance (b_var (pv 1)) (pe_bltn (by rfl) T.n_int (by decide +kernel) rfl))) (nomark _))
  (sb_one (s_ret e_bl))
  sb_nil)
  (sb_one (s_ret (e_and (e_isiT (.cons kit_int (pe_bltn (by rfl) T.n_int (by decide +kernel) rfl) (by rfl) (.cons kit_str (pe_bltn (by rfl) T.n_str (by decide +kernel) rfl) (by rfl) .nil)) (by decide) (by rfl) T.n_isinstance (b_var (pv 0))) (e_one (e_cmp (op_eq2 (hu64 hr)) o_eq2 (b_var (pv 0)) (b_var (pv 1)) (nomark _)))))))
  sb_nil)
  (sb_cons (s_if (PW.pt (tw_or (t_cmp (opr_ne2 (hu64 hr)) o_ne2 (EE.eb (e_isi kit_tuple (by rfl) T.n_isinstance (b_var (pv 1)) (pe_bltn (by rfl) T.n_tuple (by decide +kernel) rfl))) (EE.eb (e_isi kit_tuple (by rfl) T.n_isinstance (b_var (pv 0)) (pe_bltn (by rfl) T.n_tuple (by decide +kernel) rfl))) (nomark _)) (pw_or1 (t_cmp (opr_ne2 (hu64 hr)) o_ne2 (EE.eb (e_isi kit_list (by rfl) T.n_isinstance (b_var (pv 1)) (pe_bltn (by rfl) T.n_list (by decide +kernel) rfl))) (EE.eb (e_isi kit_list (by rfl) T.n_isinstance (b_var (pv 0)) (pe_bltn (by rfl) T.n_list (by decide +kernel) rfl))) (nomark _)))))
  (sb_one (s_ret e_bl))
  sb_nil)
  (sb_cons (s_if (t_cmp (opr_ne2 (hu64 hr)) o_ne2 (EE.eb (e_call1 call_len c_len (by rfl) T.n_len (by decide +kernel) (b_var (pv 0)))) (EE.eb (e_call1 call_len c_len (by rfl) T.n_len (by decide +kernel) (b_var (pv 1)))) (nomark _))
  (sb_one (s_ret e_bl))
  sb_nil)
  (sb_one (s_ret (e_cmp (opr_ni2 (hu64 hr)) o_ni2 (EE.eb e_bl) (EE.eb (EF.ee (f_lc (own := [("one", 2), ("other", 3)]) (g := (.tp [2, 3])) rfl sc__law_same.nd (i_zipB (by rfl) T.n_zip (b_var (pv 0)) (b_var (pv 1))) (blkOk_by (N := N__law_same) (sc := defScope s__law_same) (by decide +kernel)) (by simp [Tg.slots]) (fun _ _ _ _ _ => (g_tp rfl (.cons (pg_name sc__law_same.nd rfl (by first | exact Or.inl rfl | exact Or.inr rfl)) (by rfl) (.cons (pg_name sc__law_same.nd rfl (by first | exact Or.inl rfl | exact Or.inr rfl)) (by rfl) .nil)))) (fun _ _ _ _ _ => ts_nil) (fun _ _ _ _ _ => (e_call G hr (by rfl) T.g__law_same T.F__law_same.kp (b__law_same T) (a_name (pv 2) (a_name (pv 3) a_nil))))))) (by rfl)))))))))
end
section
variable {P : Program} {w : World} {K : PySem.W.Frag} {mg : Str → Option Value} {base : Heap}
theorem b_kept_after (T : Txt P w base K mg) : Binds K T.d_kept_after ["kept", "step"] [] := T.F_kept_after.binds fun _ _ _ _ _ _ us hl => match us, hl with | [_, _], _ => rfl
theorem ok_kept_after (T : Txt P w base K mg) : FnOk P w K mg base CX0 1 T.a_kept_after T.d_kept_after ["kept", "step"] (spW K w_kept_after) := ok_fn (N := N_kept_after) (k := 0) T.F_kept_after sc_kept_after fun cdv A outer s H E hr => 
  (sb_one (s_ret (e_if (t_cmp (op_eq2 (hu64 hr)) o_eq2 (EE.eb (e_ix (b_var (pv 1)) (EE.eb e_int) (fun _ _ => rfl))) (EE.eb e_str) (nomark _)) (e_ix (b_var (pv 1)) (EE.eb e_int) (fun _ _ => rfl)) (e_var (pv 0)))))
end
section
variable {P : Program} {w : World} {K : PySem.W.Frag} {mg : Str → Option Value} {base : Heap}
theorem b_kept_columns (T : Txt P w base K mg) : Binds K T.d_kept_columns ["schema", "report"] [] := T.F_kept_columns.binds fun _ _ _ _ _ _ us hl => match us, hl with | [_, _], _ => rfl
theorem ok_kept_columns (T : Txt P w base K mg) : FnOk P w K mg base CX0 2 T.a_kept_columns T.d_kept_columns ["schema", "report"] (spW K w_kept_columns) := ok_fn (N := N_kept_columns) (k := 1) T.F_kept_columns sc_kept_columns fun cdv A outer s H E hr => 
  (sb_cons (s_set (i := 2) sc_kept_columns.nd rfl (by first | exact Or.inl rfl | exact Or.inr rfl) (e_ix (b_var (pv 0)) (EE.eb e_int) (fun _ _ => rfl)))
  (sb_cons (s_for PassesOwn.never rfl (i_seq false (e_var (pv 1))) (g_nm sc_kept_columns.nd rfl (by first | exact Or.inl rfl | exact Or.inr rfl))
  (sb_one (s_set (i := 2) sc_kept_columns.nd rfl (by first | exact Or.inl rfl | exact Or.inr rfl) (e_call (ok_kept_after T) (hr.mono (by decide)) (by rfl) T.g_kept_after T.F_kept_after.kp (b_kept_after T) (a_name (pv 2) (a_name (pv 3) a_nil))))))
  (sb_one (s_ret (e_var (pv 2))))))
end
section
variable {P : Program} {w : World} {K : PySem.W.Frag} {mg : Str → Option Value} {base : Heap}
theorem b_settles (T : Txt P w base K mg) : Binds K T.d_settles ["schema", "report", "knowledge"] [] := T.F_settles.binds fun _ _ _ _ _ _ us hl => match us, hl with | [_, _, _], _ => rfl
theorem ok_settles (T : Txt P w base K mg) : FnOk P w K mg base CX0 6 T.a_settles T.d_settles ["schema", "report", "knowledge"] (spW K w_settles) := ok_fn (N := N_settles) (k := 5) T.F_settles sc_settles fun cdv A outer s H E hr => 
  (sb_cons (s_if (t_cmp (op_eq2 (hu64 hr)) o_eq2 (b_var (pv 2)) (EE.eb (e_glo (by rfl) T.k_EMPTY (fun _ => rv_EMPTY T))) (nomark _))
  (sb_one (s_ret e_bl))
  sb_nil)
  (sb_cons (s_asg (e_sl (b_var (pv 2)) (o_some (EE.eb e_int)) o_none) (g_tp rfl (.cons (pg_name sc_settles.nd rfl (by first | exact Or.inl rfl | exact Or.inr rfl)) (by rfl) (.cons (pg_name sc_settles.nd rfl (by first | exact Or.inl rfl | exact Or.inr rfl)) (by rfl) (.cons (pg_name sc_settles.nd rfl (by first | exact Or.inl rfl | exact Or.inr rfl)) (by rfl) .nil)))))
  (sb_cons (s_if (t_not (t_tru (b_var (pv 4)) (by intro _; rfl)))
  (sb_one (s_ret e_bl))
  sb_nil)
  (sb_cons (s_set (i := 6) sc_settles.nd rfl (by first | exact Or.inl rfl | exact Or.inr rfl) (e_if (t_tru (b_var (pv 1)) (by intro _; rfl)) (e_ix (EE.eb (e_ix (b_var (pv 1)) (EE.eb (e_neg (EE.eb e_int))) (fun _ _ => rfl))) (EE.eb e_int) (fun _ _ => rfl)) e_str))
  (sb_cons (s_if (t_cmp (op_eq2 (hu64 hr)) o_eq2 (b_var (pv 6)) (EE.eb e_str) (nomark _))
  (sb_one (s_ret (e_call (ok_contains T) (hr.mono (by decide)) (by rfl) T.g_contains T.F_contains.kp (b_contains T) (a_name (pv 3) (a_cons (e_ix (EE.eb (e_ix (b_var (pv 1)) (EE.eb (e_neg (EE.eb e_int))) (fun _ _ => rfl))) (EE.eb e_int) (fun _ _ => rfl)) a_nil)))))
  sb_nil)
  (sb_cons (s_if (t_cmp (op_eq2 (hu64 hr)) o_eq2 (b_var (pv 6)) (EE.eb e_str) (nomark _))
  (sb_one (s_ret (e_call (ok_contains T) (hr.mono (by decide)) (by rfl) T.g_contains T.F_contains.kp (b_contains T) (a_name (pv 3) (a_cons (e_op opr_add o_add (EE.eb (e_ix (EE.eb (e_ix (b_var (pv 1)) (EE.eb (e_neg (EE.eb e_int))) (fun _ _ => rfl))) (EE.eb e_int) (fun _ _ => rfl))) (EE.eb (e_ix (EE.eb (e_ix (b_var (pv 1)) (EE.eb (e_neg (EE.eb e_int))) (fun _ _ => rfl))) (EE.eb e_int) (fun _ _ => rfl)))) a_nil)))))
  sb_nil)
  (sb_cons (s_set (i := 7) sc_settles.nd rfl (by first | exact Or.inl rfl | exact Or.inr rfl) (e_call (ok_kept_columns T) (hr.mono (by decide)) (by rfl) T.g_kept_columns T.F_kept_columns.kp (b_kept_columns T) (a_name (pv 0) (a_name (pv 1) a_nil))))
  (sb_cons (s_if (t_not (t_tru (EE.eb (e_call (ok_contains T) (hr.mono (by decide)) (by rfl) T.g_contains T.F_contains.kp (b_contains T) (a_name (pv 3) (a_name (pv 7) a_nil)))) (by intro _; rfl)))
  (sb_one (s_ret e_bl))
  sb_nil)
  (sb_cons (s_set (i := 8) sc_settles.nd rfl (by first | exact Or.inl rfl | exact Or.inr rfl) (e_if (t_cmp (op_eq2 (hu64 hr)) o_eq2 (b_var (pv 6)) (EE.eb e_str) (nomark _)) (e_ix (EE.eb (e_ix (b_var (pv 1)) (EE.eb (e_neg (EE.eb e_int))) (fun _ _ => rfl))) (EE.eb e_int) (fun _ _ => rfl)) e_str))
  (sb_one (s_ret (e_or (e_cmp (op_eq2 (hu64 hr)) o_eq2 (b_var (pv 5)) (EE.eb e_int) (nomark _)) (e_one (e_call (ok_contains T) (hr.mono (by decide)) (by rfl) T.g_contains T.F_contains.kp (b_contains T) (a_cons (e_call (ok_determined T) (hr.mono (by decide)) (by rfl) T.g_determined T.F_determined.kp (b_determined T) (a_name (pv 0) (a_name (pv 2) (a_name (pv 8) a_nil)))) (a_name (pv 7) a_nil))))))))))))))))
end
section
variable {P : Program} {w : World} {K : PySem.W.Frag} {mg : Str → Option Value} {base : Heap}
theorem b_is_settled (T : Txt P w base K mg) : Binds K T.d_is_settled ["schema", "report"] [] := T.F_is_settled.binds fun _ _ _ _ _ _ us hl => match us, hl with | [_, _], _ => rfl
theorem ok_is_settled (T : Txt P w base K mg) : FnOk P w K mg base CX0 10 T.a_is_settled T.d_is_settled ["schema", "report"] (spW K w_is_settled) := ok_fn (N := N_is_settled) (k := 9) T.F_is_settled sc_is_settled fun cdv A outer s H E hr => 
  (sb_one (s_ret (e_call (ok_settles T) (hr.mono (by decide)) (by rfl) T.g_settles T.F_settles.kp (b_settles T) (a_name (pv 0) (a_name (pv 1) (a_cons (e_ix (EE.eb (e_call (spO.fz (ok_derive T)) (hr.mono (by decide)) (by rfl) T.g_derive T.F_derive.kp (b_derive T) (a_name (pv 0) (a_name (pv 1) a_nil)))) (EE.eb (e_neg (EE.eb e_int))) (fun _ _ => rfl)) a_nil))))))
end
section
variable {P : Program} {w : World} {K : PySem.W.Frag} {mg : Str → Option Value} {base : Heap}
theorem b__law_kept (T : Txt P w base K mg) : Binds K T.d__law_kept ["schema", "report"] [] := T.F__law_kept.binds fun _ _ _ _ _ _ us hl => match us, hl with | [_, _], _ => rfl
theorem ok__law_kept (T : Txt P w base K mg) : FnOk P w K mg base CX0 1 T.a__law_kept T.d__law_kept ["schema", "report"] (spW K w__law_kept) := ok_fn (N := N__law_kept) (k := 0) T.F__law_kept sc__law_kept fun cdv A outer s H E hr => 
  (sb_cons (s_set (i := 2) sc__law_kept.nd rfl (by first | exact Or.inl rfl | exact Or.inr rfl) (e_ix (b_var (pv 0)) (EE.eb e_int) (fun _ _ => rfl)))
  (sb_cons (s_for PassesOwn.never rfl (i_seq false (e_var (pv 1))) (g_nm sc__law_kept.nd rfl (by first | exact Or.inl rfl | exact Or.inr rfl))
  (sb_one (s_set (i := 2) sc__law_kept.nd rfl (by first | exact Or.inl rfl | exact Or.inr rfl) (e_if (t_cmp (op_eq2 (hu64 hr)) o_eq2 (EE.eb (e_ix (b_var (pv 3)) (EE.eb e_int) (fun _ _ => rfl))) (EE.eb e_str) (nomark _)) (e_ix (b_var (pv 3)) (EE.eb e_int) (fun _ _ => rfl)) (e_var (pv 2))))))
  (sb_one (s_ret (e_var (pv 2))))))
end
section
variable {P : Program} {w : World} {K : PySem.W.Frag} {mg : Str → Option Value} {base : Heap}
theorem b__law_within (T : Txt P w base K mg) : Binds K T.d__law_within ["some", "columns"] [] := T.F__law_within.binds fun _ _ _ _ _ _ us hl => match us, hl with | [_, _], _ => rfl
theorem ok__law_within (T : Txt P w base K mg) : FnOk P w K mg base CX0 1 T.a__law_within T.d__law_within ["some", "columns"] (spW K w__law_within) := ok_fn (N := N__law_within) (k := 0) T.F__law_within sc__law_within fun cdv A outer s H E hr => 
  (sb_one (s_ret (e_cmp (op_eq2 (hu64 hr)) o_eq2 (EE.eb (EF.ee (f_lc (own := [("column", 2)]) (g := (.nm 2)) rfl sc__law_within.nd (i_seqB (b_var (pv 0))) (blkOk_by (N := N__law_within) (sc := defScope s__law_within) (by decide +kernel)) (by simp [Tg.slots]) (fun _ _ _ _ _ => (g_nm sc__law_within.nd rfl (by first | exact Or.inl rfl | exact Or.inr rfl))) (fun _ _ _ _ _ => (ts_one (t_cmp (opr_ni2 (hu64 hr)) o_ni2 (b_var (pv 2)) (b_var (pv 1)) (by rfl)))) (fun _ _ _ _ _ => (e_var (pv 2)))))) (EE.eb (EF.ee (f_lst d_nil))) (nomark _))))
end
section
variable {P : Program} {w : World} {K : PySem.W.Frag} {mg : Str → Option Value} {base : Heap}
theorem b__law_settles (T : Txt P w base K mg) : Binds K T.d__law_settles ["schema", "report", "knowledge"] [] := T.F__law_settles.binds fun _ _ _ _ _ _ us hl => match us, hl with | [_, _, _], _ => rfl
theorem ok__law_settles (T : Txt P w base K mg) : FnOk P w K mg base CX0 4 T.a__law_settles T.d__law_settles ["schema", "report", "knowledge"] (spW K w__law_settles) := ok_fn (N := N__law_settles) (k := 3) T.F__law_settles sc__law_settles fun cdv A outer s H E hr => 
  (sb_cons (s_if (t_cmp (op_eq2 (hu64 hr)) o_eq2 (b_var (pv 2)) (EE.eb (e_tup (d_cons e_str d_nil))) (nomark _))
  (sb_one (s_ret e_bl))
  sb_nil)
  (sb_cons (s_asg (e_var (pv 2)) (g_tp rfl (.cons (pg_name sc__law_settles.nd rfl (by first | exact Or.inl rfl | exact Or.inr rfl)) (by rfl) (.cons (pg_name sc__law_settles.nd rfl (by first | exact Or.inl rfl | exact Or.inr rfl)) (by rfl) (.cons (pg_name sc__law_settles.nd rfl (by first | exact Or.inl rfl | exact Or.inr rfl)) (by rfl) (.cons (pg_name sc__law_settles.nd rfl (by first | exact Or.inl rfl | exact Or.inr rfl)) (by rfl) (.cons (pg_name sc__law_settles.nd rfl (by first | exact Or.inl rfl | exact Or.inr rfl)) (by rfl) .nil)))))))
  (sb_cons (s_set (i := 8) sc__law_settles.nd rfl (by first | exact Or.inl rfl | exact Or.inr rfl) (e_call (ok__law_kept T) (hr.mono (by decide)) (by rfl) T.g__law_kept T.F__law_kept.kp (b__law_kept T) (a_name (pv 0) (a_name (pv 1) a_nil))))
  (sb_cons (s_if (t_not (t_tru (b_var (pv 6)) (by intro _; rfl)))
  (sb_one (s_ret e_bl))
  sb_nil)
  (sb_cons (s_if (PW.pt (tw_or (t_cmp (op_eq2 (hu64 hr)) o_eq2 (b_var (pv 1)) (EE.eb (e_tup d_nil)) (nomark _)) (pw_or1 (t_cmp (opr_ni2 (hu64 hr)) o_ni2 (EE.eb (e_ix (EE.eb (e_ix (b_var (pv 1)) (EE.eb (e_neg (EE.eb e_int))) (fun _ _ => rfl))) (EE.eb e_int) (fun _ _ => rfl))) (EE.eb (EF.ee (f_lst (d_cons e_str (d_cons e_str (d_cons e_str d_nil)))))) (by rfl)))))
  (sb_one (s_ret (e_or (e_call (ok__law_within T) (hr.mono (by decide)) (by rfl) T.g__law_within T.F__law_within.kp (b__law_within T) (a_name (pv 8) (a_cons (e_call (ok__law_placed T) (hr.mono (by decide)) (by rfl) T.g__law_placed T.F__law_placed.kp (b__law_placed T) (a_name (pv 0) (a_name (pv 2) a_nil))) a_nil))) (e_one (e_and (e_cmp (op_eq2 (hu64 hr)) o_eq2 (b_var (pv 7)) (EE.eb e_int) (nomark _)) (e_one (e_call (ok__law_within T) (hr.mono (by decide)) (by rfl) T.g__law_within T.F__law_within.kp (b__law_within T) (a_name (pv 8) (a_name (pv 5) a_nil)))))))))
  sb_nil)
  (sb_cons (s_set (i := 9) sc__law_settles.nd rfl (by first | exact Or.inl rfl | exact Or.inr rfl) (e_ix (b_var (pv 1)) (EE.eb (e_neg (EE.eb e_int))) (fun _ _ => rfl)))
  (sb_cons (s_if (PW.pt (tw_or (t_not (t_tru (EE.eb (e_call (ok__law_within T) (hr.mono (by decide)) (by rfl) T.g__law_within T.F__law_within.kp (b__law_within T) (a_cons (e_ix (b_var (pv 9)) (EE.eb e_int) (fun _ _ => rfl)) (a_name (pv 5) a_nil)))) (by intro _; rfl))) (pw_or1 (PW.pt (tw_and (t_cmp (op_eq2 (hu64 hr)) o_eq2 (EE.eb (e_ix (b_var (pv 9)) (EE.eb e_int) (fun _ _ => rfl))) (EE.eb e_str) (nomark _)) (pw_and1 (t_cmp (opr_ni2 (hu64 hr)) o_ni2 (EE.eb (e_ix (b_var (pv 9)) (EE.eb e_int) (fun _ _ => rfl))) (b_var (pv 5)) (by rfl))))))))
  (sb_one (s_ret e_bl))
  sb_nil)
  (sb_cons (s_if (t_cmp (opr_ne2 (hu64 hr)) o_ne2 (EE.eb (e_ix (b_var (pv 9)) (EE.eb e_int) (fun _ _ => rfl))) (EE.eb e_str) (nomark _))
  (sb_one (s_ret e_bl))
  sb_nil)
  (sb_cons (s_set (i := 10) sc__law_settles.nd rfl (by first | exact Or.inl rfl | exact Or.inr rfl) (e_call (ok__law_closure T) (hr.mono (by decide)) (by rfl) T.g__law_closure T.F__law_closure.kp (b__law_closure T) (a_name (pv 0) (a_cons (e_op opr_add o_add (EE.eb (e_op opr_add o_add (EE.eb (e_ix (b_var (pv 9)) (EE.eb e_int) (fun _ _ => rfl))) (b_var (pv 4)))) (EE.eb (e_call (ok__law_names T) (hr.mono (by decide)) (by rfl) T.g__law_names T.F__law_names.kp (b__law_names T) (a_name (pv 3) a_nil)))) a_nil))))
  (sb_one (s_ret (e_and (e_call (ok__law_within T) (hr.mono (by decide)) (by rfl) T.g__law_within T.F__law_within.kp (b__law_within T) (a_name (pv 8) (a_name (pv 5) a_nil))) (e_one (e_or (e_cmp (op_eq2 (hu64 hr)) o_eq2 (b_var (pv 7)) (EE.eb e_int) (nomark _)) (e_one (e_call (ok__law_within T) (hr.mono (by decide)) (by rfl) T.g__law_within T.F__law_within.kp (b__law_within T) (a_name (pv 8) (a_name (pv 10) a_nil))))))))))))))))))
end
section
variable {P : Program} {w : World} {K : PySem.W.Frag} {mg : Str → Option Value} {base : Heap}
theorem ok_law (T : Txt P w base K mg) (holds : LawHolds) : TopOk P w K mg base 11 T.a_law T.d_law ["script"] (spLawTop K) := by
  refine top_ok T.F_law sc_law (fun vs H Q E h => ?_) (fun cdv A outer s H vs Q E hr NS h => ?_)
  · obtain ⟨a, ns, rfl, _⟩ := h
    rfl
  · obtain ⟨a, ns, rfl, hS, hlen, q⟩ := h
    refine ⟨_, pss_cons (ps_set (i := 1) sc_law.nd rfl (by first | exact Or.inl rfl | exact Or.inr rfl) (pe_call (ok__law_open T) (hr.mono (by decide)) (by rfl) T.g__law_open T.F__law_open.kp (b__law_open T) .nil pass0 (pa_cons (pv 0) pa_nil)))
      (show SB _ _ t_law from (sb_cons (s_for PassesOwn.never rfl (i_rng1 false (by rfl) T.n_range (EE.eb e_int)) (g_nm sc_law.nd rfl (by first | exact Or.inl rfl | exact Or.inr rfl))
  (sb_cons (s_set (i := 3) sc_law.nd rfl (by first | exact Or.inl rfl | exact Or.inr rfl) (e_call (ok__law_draw_schema T) (hr.mono (by decide)) (by rfl) T.g__law_draw_schema T.F__law_draw_schema.kp (b__law_draw_schema T) (a_name (pv 1) (a_cons e_int a_nil))))
  (sb_cons (s_set (i := 4) sc_law.nd rfl (by first | exact Or.inl rfl | exact Or.inr rfl) (e_call (ok__law_draw_report T) (hr.mono (by decide)) (by rfl) T.g__law_draw_report T.F__law_draw_report.kp (b__law_draw_report T) (a_name (pv 1) (a_name (pv 3) (a_cons e_int (a_cons e_int a_nil))))))
  (sb_cons (s_par rfl sc_law.nd (i := 5) (j := 6) rfl rfl (by decide) rfl rfl (e_repr2 NS (hu64 hr) (by rfl) T.n_repr (e_tup (d_cons (e_var (pv 3)) (d_cons (e_var (pv 4)) d_nil)))) (e_call (ok__law_derive T) (hr.mono (by decide)) (by rfl) T.g__law_derive T.F__law_derive.kp (b__law_derive T) (a_name (pv 3) (a_name (pv 4) a_nil))) (by rfl))
  (sb_cons (s_for PassesOwn.never rfl (i_rng1 false (by rfl) T.n_range (EE.eb e_int)) (g_nm sc_law.nd rfl (by first | exact Or.inl rfl | exact Or.inr rfl))
  (sb_cons (s_setO (i := 8) (ok_derive T) (hr.mono (by decide)) (by rfl) T.g_derive T.F_derive.kp (b_derive T) (a_name (pv 3) (a_name (pv 4) a_nil)) sc_law.nd rfl (by first | exact Or.inl rfl | exact Or.inr rfl))
  (sb_cons (s_if (t_not (t_tru (EE.eb (e_call (ok__law_same T 8) (hr.mono (by decide)) (by rfl) T.g__law_same T.F__law_same.kp (b__law_same T) (a_name (pv 8) (a_name (pv 6) a_nil)))) (by intro _; rfl)))
  (sb_one (s_ret e_bl))
  sb_nil)
  (sb_one (s_app (pv 8) e_non)))))
  (sb_cons (s_if (t_not (t_tru (EE.eb (e_call (ok__law_same T 8) (hr.mono (by decide)) (by rfl) T.g__law_same T.F__law_same.kp (b__law_same T) (a_cons (e_call (ok_start_knowledge T) (hr.mono (by decide)) (by rfl) T.g_start_knowledge T.F_start_knowledge.kp (b_start_knowledge T) (a_name (pv 3) a_nil)) (a_cons (e_ix (b_var (pv 6)) (EE.eb e_int) (fun _ _ => rfl)) a_nil)))) (by intro _; rfl)))
  (sb_one (s_ret e_bl))
  sb_nil)
  (sb_cons (s_for PassesOwn.never rfl (i_enumT false (by rfl) T.n_enumerate (e_var (pv 4))) (g_tp rfl (.cons (pg_name sc_law.nd rfl (by first | exact Or.inl rfl | exact Or.inr rfl)) (by rfl) (.cons (pg_name sc_law.nd rfl (by first | exact Or.inl rfl | exact Or.inr rfl)) (by rfl) .nil)))
  (sb_one (s_if (t_not (t_tru (EE.eb (e_call (ok__law_same T 8) (hr.mono (by decide)) (by rfl) T.g__law_same T.F__law_same.kp (b__law_same T) (a_cons (e_call (ok_knowledge_after T) (hr.mono (by decide)) (by rfl) T.g_knowledge_after T.F_knowledge_after.kp (b_knowledge_after T) (a_name (pv 3) (a_cons (e_ix (b_var (pv 6)) (b_var (pv 9)) (fun _ _ => rfl)) (a_name (pv 10) a_nil)))) (a_cons (e_ix (b_var (pv 6)) (EE.eb (e_op opr_add o_add (b_var (pv 9)) (EE.eb e_int))) (fun _ _ => rfl)) a_nil)))) (by intro _; rfl)))
  (sb_one (s_ret e_bl))
  sb_nil)))
  (sb_cons (s_if (t_not (t_tru (EE.eb (e_call (ok__law_same T 8) (hr.mono (by decide)) (by rfl) T.g__law_same T.F__law_same.kp (b__law_same T) (a_cons (e_call (ok_is_settled T) (hr.mono (by decide)) (by rfl) T.g_is_settled T.F_is_settled.kp (b_is_settled T) (a_name (pv 3) (a_name (pv 4) a_nil))) (a_cons (e_call (ok__law_settles T) (hr.mono (by decide)) (by rfl) T.g__law_settles T.F__law_settles.kp (b__law_settles T) (a_name (pv 3) (a_name (pv 4) (a_cons (e_ix (b_var (pv 6)) (EE.eb (e_neg (EE.eb e_int))) (fun _ _ => rfl)) a_nil)))) a_nil)))) (by intro _; rfl)))
  (sb_one (s_ret e_bl))
  sb_nil)
  (sb_one (s_if (t_cmp (opr_ne2 (hu64 hr)) o_ne2 (EE.eb (e_repr2 NS (hu64 hr) (by rfl) T.n_repr (e_tup (d_cons (e_var (pv 3)) (d_cons (e_var (pv 4)) d_nil))))) (b_var (pv 5)) (nomark _))
  (sb_one (s_ret e_bl))
  sb_nil))))))))))
  (sb_one (s_ret e_bl)))), ?_⟩
    refine ⟨.ref a, rfl, a, ns, rfl, hS, hlen, fun H' pa ca cells sm ne hpa hca h1 h2 h3 => ?_⟩
    refine ⟨some (pa, ca), fun _ => none, H', fun _ => none, _, _, _, law_rep (N := N_law) (ip := 1) (by decide) ne h1 h2 h3, holds, fun σ' F' H2 env' b' rep' => ⟨fun z => z.elim, fun z => z, fun z => z⟩, ⟨fun v d F' H2 b' o' x' rv e => by subst e; cases rv; exact q _, fun _ _ _ _ _ _ _ _ _ z => z.elim⟩⟩
end
end Lw
namespace Lw
open PySem PySem.Spec PyProof.Rows L2 Pu
def f__law_open : He.DefD := ⟨("_law_open", none), "_law_open", "_law_open", defArgs s__law_open, defBody s__law_open, defScope s__law_open, [], []⟩
def f__law_spread : He.DefD := ⟨("_law_spread", none), "_law_spread", "_law_spread", defArgs s__law_spread, defBody s__law_spread, defScope s__law_spread, [], []⟩
def f__law_take : He.DefD := ⟨("_law_take", none), "_law_take", "_law_take", defArgs s__law_take, defBody s__law_take, defScope s__law_take, [], []⟩
def f__law_subset : He.DefD := ⟨("_law_subset", none), "_law_subset", "_law_subset", defArgs s__law_subset, defBody s__law_subset, defScope s__law_subset, [], []⟩
def f__law_draw_schema : He.DefD := ⟨("_law_draw_schema", none), "_law_draw_schema", "_law_draw_schema", defArgs s__law_draw_schema, defBody s__law_draw_schema, defScope s__law_draw_schema, [], []⟩
def f__law_mixed : He.DefD := ⟨("_law_mixed", none), "_law_mixed", "_law_mixed", defArgs s__law_mixed, defBody s__law_mixed, defScope s__law_mixed, [], []⟩
def f__law_draw_step : He.DefD := ⟨("_law_draw_step", none), "_law_draw_step", "_law_draw_step", defArgs s__law_draw_step, defBody s__law_draw_step, defScope s__law_draw_step, [], []⟩
def f__law_draw_report : He.DefD := ⟨("_law_draw_report", none), "_law_draw_report", "_law_draw_report", defArgs s__law_draw_report, defBody s__law_draw_report, defScope s__law_draw_report, [], []⟩
def f__law_names : He.DefD := ⟨("_law_names", none), "_law_names", "_law_names", defArgs s__law_names, defBody s__law_names, defScope s__law_names, [], []⟩
def f__law_all_in : He.DefD := ⟨("_law_all_in", none), "_law_all_in", "_law_all_in", defArgs s__law_all_in, defBody s__law_all_in, defScope s__law_all_in, [], []⟩
def f__law_closure : He.DefD := ⟨("_law_closure", none), "_law_closure", "_law_closure", defArgs s__law_closure, defBody s__law_closure, defScope s__law_closure, [], []⟩
def f__law_is_one : He.DefD := ⟨("_law_is_one", none), "_law_is_one", "_law_is_one", defArgs s__law_is_one, defBody s__law_is_one, defScope s__law_is_one, [], []⟩
def f__law_after_where : He.DefD := ⟨("_law_after_where", none), "_law_after_where", "_law_after_where", defArgs s__law_after_where, defBody s__law_after_where, defScope s__law_after_where, [], []⟩
def f__law_after_sort : He.DefD := ⟨("_law_after_sort", none), "_law_after_sort", "_law_after_sort", defArgs s__law_after_sort, defBody s__law_after_sort, defScope s__law_after_sort, [], []⟩
def f__law_placed : He.DefD := ⟨("_law_placed", none), "_law_placed", "_law_placed", defArgs s__law_placed, defBody s__law_placed, defScope s__law_placed, [], []⟩
def f__law_after : He.DefD := ⟨("_law_after", none), "_law_after", "_law_after", defArgs s__law_after, defBody s__law_after, defScope s__law_after, [], []⟩
def f__law_derive : He.DefD := ⟨("_law_derive", none), "_law_derive", "_law_derive", defArgs s__law_derive, defBody s__law_derive, defScope s__law_derive, [], []⟩
def f_contains : He.DefD := ⟨("contains", none), "contains", "contains", defArgs s_contains, defBody s_contains, defScope s_contains, [], []⟩
def f__has_key : He.DefD := ⟨("_has_key", none), "_has_key", "_has_key", defArgs s__has_key, defBody s__has_key, defScope s__has_key, [], []⟩
def f_common : He.DefD := ⟨("common", none), "common", "common", defArgs s_common, defBody s_common, defScope s_common, [], []⟩
def f__closure_round : He.DefD := ⟨("_closure_round", none), "_closure_round", "_closure_round", defArgs s__closure_round, defBody s__closure_round, defScope s__closure_round, [], []⟩
def f_closure : He.DefD := ⟨("closure", none), "closure", "closure", defArgs s_closure, defBody s_closure, defScope s_closure, [], []⟩
def f_is_unique : He.DefD := ⟨("is_unique", none), "is_unique", "is_unique", defArgs s_is_unique, defBody s_is_unique, defScope s_is_unique, [], []⟩
def f_start_knowledge : He.DefD := ⟨("start_knowledge", none), "start_knowledge", "start_knowledge", defArgs s_start_knowledge, defBody s_start_knowledge, defScope s_start_knowledge, [], []⟩
def f__after_where : He.DefD := ⟨("_after_where", none), "_after_where", "_after_where", defArgs s__after_where, defBody s__after_where, defScope s__after_where, [], []⟩
def f__known_beginning : He.DefD := ⟨("_known_beginning", none), "_known_beginning", "_known_beginning", defArgs s__known_beginning, defBody s__known_beginning, defScope s__known_beginning, [], []⟩
def f__after_sorting : He.DefD := ⟨("_after_sorting", none), "_after_sorting", "_after_sorting", defArgs s__after_sorting, defBody s__after_sorting, defScope s__after_sorting, [], []⟩
def f_determined : He.DefD := ⟨("determined", none), "determined", "determined", defArgs s_determined, defBody s_determined, defScope s_determined, [], []⟩
def f__placed : He.DefD := ⟨("_placed", none), "_placed", "_placed", defArgs s__placed, defBody s__placed, defScope s__placed, [], []⟩
def f__after_first : He.DefD := ⟨("_after_first", none), "_after_first", "_after_first", defArgs s__after_first, defBody s__after_first, defScope s__after_first, [], []⟩
def f__after_skip : He.DefD := ⟨("_after_skip", none), "_after_skip", "_after_skip", defArgs s__after_skip, defBody s__after_skip, defScope s__after_skip, [], []⟩
def f_knowledge_after : He.DefD := ⟨("knowledge_after", none), "knowledge_after", "knowledge_after", defArgs s_knowledge_after, defBody s_knowledge_after, defScope s_knowledge_after, [], []⟩
def f_derive : He.DefD := ⟨("derive", none), "derive", "derive", defArgs s_derive, defBody s_derive, defScope s_derive, [], []⟩
def f__law_same : He.DefD := ⟨("_law_same", none), "_law_same", "_law_same", defArgs s__law_same, defBody s__law_same, defScope s__law_same, [], []⟩
def f_kept_after : He.DefD := ⟨("kept_after", none), "kept_after", "kept_after", defArgs s_kept_after, defBody s_kept_after, defScope s_kept_after, [], []⟩
def f_kept_columns : He.DefD := ⟨("kept_columns", none), "kept_columns", "kept_columns", defArgs s_kept_columns, defBody s_kept_columns, defScope s_kept_columns, [], []⟩
def f_settles : He.DefD := ⟨("settles", none), "settles", "settles", defArgs s_settles, defBody s_settles, defScope s_settles, [], []⟩
def f_is_settled : He.DefD := ⟨("is_settled", none), "is_settled", "is_settled", defArgs s_is_settled, defBody s_is_settled, defScope s_is_settled, [], []⟩
def f__law_kept : He.DefD := ⟨("_law_kept", none), "_law_kept", "_law_kept", defArgs s__law_kept, defBody s__law_kept, defScope s__law_kept, [], []⟩
def f__law_within : He.DefD := ⟨("_law_within", none), "_law_within", "_law_within", defArgs s__law_within, defBody s__law_within, defScope s__law_within, [], []⟩
def f__law_settles : He.DefD := ⟨("_law_settles", none), "_law_settles", "_law_settles", defArgs s__law_settles, defBody s__law_settles, defScope s__law_settles, [], []⟩
def f_law : He.DefD := ⟨("law", none), "law", "law", defArgs s_law, defBody s_law, defScope s_law, [], []⟩
def fn : List He.DefD := [f__law_open, f__law_spread, f__law_take, f__law_subset, f__law_draw_schema, f__law_mixed, f__law_draw_step, f__law_draw_report, f__law_names, f__law_all_in, f__law_closure, f__law_is_one, f__law_after_where, f__law_after_sort, f__law_placed, f__law_after, f__law_derive, f_contains, f__has_key, f_common, f__closure_round, f_closure, f_is_unique, f_start_knowledge, f__after_where, f__known_beginning, f__after_sorting, f_determined, f__placed, f__after_first, f__after_skip, f_knowledge_after, f_derive, f__law_same, f_kept_after, f_kept_columns, f_settles, f_is_settled, f__law_kept, f__law_within, f__law_settles, f_law]
def fa : List He.Fa := [.glo "_law_open", .glo "_law_spread", .glo "_law_take", .glo "_law_subset", .glo "_law_draw_schema", .glo "_law_mixed", .glo "_law_draw_step", .glo "_law_draw_report", .glo "_law_names", .glo "_law_all_in", .glo "_law_closure", .glo "_law_is_one", .glo "_law_after_where", .glo "_law_after_sort", .glo "_law_placed", .glo "_law_after", .glo "_law_derive", .glo "contains", .glo "_has_key", .glo "common", .glo "_closure_round", .glo "closure", .glo "is_unique", .glo "start_knowledge", .glo "_after_where", .glo "_known_beginning", .glo "_after_sorting", .glo "determined", .glo "_placed", .glo "_after_first", .glo "_after_skip", .glo "knowledge_after", .glo "derive", .glo "_law_same", .glo "kept_after", .glo "kept_columns", .glo "settles", .glo "is_settled", .glo "_law_kept", .glo "_law_within", .glo "_law_settles", .glo "law", .free "all", .free "any", .free "bool", .free "dict", .free "enumerate", .free "int", .free "isinstance", .free "len", .free "list", .free "range", .free "repr", .free "sorted", .free "str", .free "tuple", .free "zip", .glo "EMPTY", .glo "GROUPING", .glo "SORTING"]
def tb : Tbl := [("EMPTY", [(.str "empty")]), ("GROUPING", [(.str "count"), (.str "sum"), (.str "heads")]), ("SORTING", [(.str "sort"), (.str "stable")])]
def looseN : List PySem.Str := (["common", "contains", "closure", "is_unique", "_has_key", "_closure_round", "SORTING", "GROUPING", "kept_columns", "kept_after", "EMPTY", "start_knowledge", "knowledge_after", "derive", "is_settled", "settles", "determined", "_placed", "_after_where", "_after_sorting"] : List PySem.Str) ++ (["_known_beginning", "_after_first", "_after_skip", "_law_open", "_law_spread", "_law_take", "_law_same", "_law_subset", "_law_mixed", "_law_draw_schema", "_law_cells", "_law_fits", "_law_draw_table", "_law_all_in", "_law_closure", "_law_draw_step", "_law_draw_report", "_law_kept", "_law_ended", "_law_one_way"] : List PySem.Str) ++ (["_law_names", "_law_is_one", "_law_placed", "_law_after_where", "_law_after_sort", "_law_after", "_law_derive", "_law_within", "_law_settles"] : List PySem.Str)
abbrev R : PySem.W.OpenRow := PySem.W.OpenLaw.row PySem.Challenge.rw_openties_k12_knowledge_by_rules
abbrev hk : PySem.W.Hook := hookC 4 fa fn tb
def ob (s : PySem.W.SharedT) : Bool × Bool × He.AlD := obsCG 4 fa fn tb (HandSHeadRun.getT s)
theorem ob_eq (s : PySem.W.SharedT) : ob s = hk.obs s.abs := obsCG_eq (HandSHeadRun.getT_eq s)
set_option maxHeartbeats 0 in
theorem run (w : World) : HandSHeadRun.RunEq R (PySem.W.view R.prog [53]) hk ob 4000 looseN w := by
  intro os
  kernel_rfl
theorem facts {P : Program} {w : World} {K : PySem.W.Frag} {h : Heap} {mg : Str → Option Value} {f : Addr} (holds : LawHolds) (X : K.In h) (G : h.Ns mainGlobals mg) (hfa : mg ("law" : Str) = some (.ref f)) (c : SaysC fa fn tb K) :
    ∃ fd : FuncData, (∀ (s : Shared) (v : Value), BindsTo s fd ⟨[v], []⟩ [("script", v)]) ∧ ∀ base : Heap, K.In base → base.Ns mainGlobals mg → TopOk P w K mg base 11 f fd ["script"] (spLawTop K) := by
  obtain ⟨fd0, F0⟩ := c.def_ 0 (d := f__law_open) rfl
  obtain ⟨fd1, F1⟩ := c.def_ 1 (d := f__law_spread) rfl
  obtain ⟨fd2, F2⟩ := c.def_ 2 (d := f__law_take) rfl
  obtain ⟨fd3, F3⟩ := c.def_ 3 (d := f__law_subset) rfl
  obtain ⟨fd4, F4⟩ := c.def_ 4 (d := f__law_draw_schema) rfl
  obtain ⟨fd5, F5⟩ := c.def_ 5 (d := f__law_mixed) rfl
  obtain ⟨fd6, F6⟩ := c.def_ 6 (d := f__law_draw_step) rfl
  obtain ⟨fd7, F7⟩ := c.def_ 7 (d := f__law_draw_report) rfl
  obtain ⟨fd8, F8⟩ := c.def_ 8 (d := f__law_names) rfl
  obtain ⟨fd9, F9⟩ := c.def_ 9 (d := f__law_all_in) rfl
  obtain ⟨fd10, F10⟩ := c.def_ 10 (d := f__law_closure) rfl
  obtain ⟨fd11, F11⟩ := c.def_ 11 (d := f__law_is_one) rfl
  obtain ⟨fd12, F12⟩ := c.def_ 12 (d := f__law_after_where) rfl
  obtain ⟨fd13, F13⟩ := c.def_ 13 (d := f__law_after_sort) rfl
  obtain ⟨fd14, F14⟩ := c.def_ 14 (d := f__law_placed) rfl
  obtain ⟨fd15, F15⟩ := c.def_ 15 (d := f__law_after) rfl
  obtain ⟨fd16, F16⟩ := c.def_ 16 (d := f__law_derive) rfl
  obtain ⟨fd17, F17⟩ := c.def_ 17 (d := f_contains) rfl
  obtain ⟨fd18, F18⟩ := c.def_ 18 (d := f__has_key) rfl
  obtain ⟨fd19, F19⟩ := c.def_ 19 (d := f_common) rfl
  obtain ⟨fd20, F20⟩ := c.def_ 20 (d := f__closure_round) rfl
  obtain ⟨fd21, F21⟩ := c.def_ 21 (d := f_closure) rfl
  obtain ⟨fd22, F22⟩ := c.def_ 22 (d := f_is_unique) rfl
  obtain ⟨fd23, F23⟩ := c.def_ 23 (d := f_start_knowledge) rfl
  obtain ⟨fd24, F24⟩ := c.def_ 24 (d := f__after_where) rfl
  obtain ⟨fd25, F25⟩ := c.def_ 25 (d := f__known_beginning) rfl
  obtain ⟨fd26, F26⟩ := c.def_ 26 (d := f__after_sorting) rfl
  obtain ⟨fd27, F27⟩ := c.def_ 27 (d := f_determined) rfl
  obtain ⟨fd28, F28⟩ := c.def_ 28 (d := f__placed) rfl
  obtain ⟨fd29, F29⟩ := c.def_ 29 (d := f__after_first) rfl
  obtain ⟨fd30, F30⟩ := c.def_ 30 (d := f__after_skip) rfl
  obtain ⟨fd31, F31⟩ := c.def_ 31 (d := f_knowledge_after) rfl
  obtain ⟨fd32, F32⟩ := c.def_ 32 (d := f_derive) rfl
  obtain ⟨fd33, F33⟩ := c.def_ 33 (d := f__law_same) rfl
  obtain ⟨fd34, F34⟩ := c.def_ 34 (d := f_kept_after) rfl
  obtain ⟨fd35, F35⟩ := c.def_ 35 (d := f_kept_columns) rfl
  obtain ⟨fd36, F36⟩ := c.def_ 36 (d := f_settles) rfl
  obtain ⟨fd37, F37⟩ := c.def_ 37 (d := f_is_settled) rfl
  obtain ⟨fd38, F38⟩ := c.def_ 38 (d := f__law_kept) rfl
  obtain ⟨fd39, F39⟩ := c.def_ 39 (d := f__law_within) rfl
  obtain ⟨fd40, F40⟩ := c.def_ 40 (d := f__law_settles) rfl
  obtain ⟨fd41, F41⟩ := c.def_ 41 (d := f_law) rfl
  have e := hfa.symm.trans (He.glo_ok X G (c.fact 41 (f := .glo "law") rfl))
  cases e
  have b := FunD.bindsA (ps := ["script"]) F41 fun _ _ _ _ _ _ us hl => match us, hl with | [_], _ => rfl
  exact ⟨fd41, fun s v => b s [v] rfl, fun base _ _ => ok_law (⟨_, fd0, toFun F0, He.glo_ok X G (c.fact 0 (f := .glo "_law_open") rfl), _, fd1, toFun F1, He.glo_ok X G (c.fact 1 (f := .glo "_law_spread") rfl), _, fd2, toFun F2, He.glo_ok X G (c.fact 2 (f := .glo "_law_take") rfl), _, fd3, toFun F3, He.glo_ok X G (c.fact 3 (f := .glo "_law_subset") rfl), _, fd4, toFun F4, He.glo_ok X G (c.fact 4 (f := .glo "_law_draw_schema") rfl), _, fd5, toFun F5, He.glo_ok X G (c.fact 5 (f := .glo "_law_mixed") rfl), _, fd6, toFun F6, He.glo_ok X G (c.fact 6 (f := .glo "_law_draw_step") rfl), _, fd7, toFun F7, He.glo_ok X G (c.fact 7 (f := .glo "_law_draw_report") rfl), _, fd8, toFun F8, He.glo_ok X G (c.fact 8 (f := .glo "_law_names") rfl), _, fd9, toFun F9, He.glo_ok X G (c.fact 9 (f := .glo "_law_all_in") rfl), _, fd10, toFun F10, He.glo_ok X G (c.fact 10 (f := .glo "_law_closure") rfl), _, fd11, toFun F11, He.glo_ok X G (c.fact 11 (f := .glo "_law_is_one") rfl), _, fd12, toFun F12, He.glo_ok X G (c.fact 12 (f := .glo "_law_after_where") rfl), _, fd13, toFun F13, He.glo_ok X G (c.fact 13 (f := .glo "_law_after_sort") rfl), _, fd14, toFun F14, He.glo_ok X G (c.fact 14 (f := .glo "_law_placed") rfl), _, fd15, toFun F15, He.glo_ok X G (c.fact 15 (f := .glo "_law_after") rfl), _, fd16, toFun F16, He.glo_ok X G (c.fact 16 (f := .glo "_law_derive") rfl), _, fd17, toFun F17, He.glo_ok X G (c.fact 17 (f := .glo "contains") rfl), _, fd18, toFun F18, He.glo_ok X G (c.fact 18 (f := .glo "_has_key") rfl), _, fd19, toFun F19, He.glo_ok X G (c.fact 19 (f := .glo "common") rfl), _, fd20, toFun F20, He.glo_ok X G (c.fact 20 (f := .glo "_closure_round") rfl), _, fd21, toFun F21, He.glo_ok X G (c.fact 21 (f := .glo "closure") rfl), _, fd22, toFun F22, He.glo_ok X G (c.fact 22 (f := .glo "is_unique") rfl), _, fd23, toFun F23, He.glo_ok X G (c.fact 23 (f := .glo "start_knowledge") rfl), _, fd24, toFun F24, He.glo_ok X G (c.fact 24 (f := .glo "_after_where") rfl), _, fd25, toFun F25, He.glo_ok X G (c.fact 25 (f := .glo "_known_beginning") rfl), _, fd26, toFun F26, He.glo_ok X G (c.fact 26 (f := .glo "_after_sorting") rfl), _, fd27, toFun F27, He.glo_ok X G (c.fact 27 (f := .glo "determined") rfl), _, fd28, toFun F28, He.glo_ok X G (c.fact 28 (f := .glo "_placed") rfl), _, fd29, toFun F29, He.glo_ok X G (c.fact 29 (f := .glo "_after_first") rfl), _, fd30, toFun F30, He.glo_ok X G (c.fact 30 (f := .glo "_after_skip") rfl), _, fd31, toFun F31, He.glo_ok X G (c.fact 31 (f := .glo "knowledge_after") rfl), _, fd32, toFun F32, He.glo_ok X G (c.fact 32 (f := .glo "derive") rfl), _, fd33, toFun F33, He.glo_ok X G (c.fact 33 (f := .glo "_law_same") rfl), _, fd34, toFun F34, He.glo_ok X G (c.fact 34 (f := .glo "kept_after") rfl), _, fd35, toFun F35, He.glo_ok X G (c.fact 35 (f := .glo "kept_columns") rfl), _, fd36, toFun F36, He.glo_ok X G (c.fact 36 (f := .glo "settles") rfl), _, fd37, toFun F37, He.glo_ok X G (c.fact 37 (f := .glo "is_settled") rfl), _, fd38, toFun F38, He.glo_ok X G (c.fact 38 (f := .glo "_law_kept") rfl), _, fd39, toFun F39, He.glo_ok X G (c.fact 39 (f := .glo "_law_within") rfl), _, fd40, toFun F40, He.glo_ok X G (c.fact 40 (f := .glo "_law_settles") rfl), _, fd41, toFun F41, He.glo_ok X G (c.fact 41 (f := .glo "law") rfl), He.free_ok X G (c.fact 42 (f := .free "all") rfl), He.free_ok X G (c.fact 43 (f := .free "any") rfl), He.free_ok X G (c.fact 44 (f := .free "bool") rfl), He.free_ok X G (c.fact 45 (f := .free "dict") rfl), He.free_ok X G (c.fact 46 (f := .free "enumerate") rfl), He.free_ok X G (c.fact 47 (f := .free "int") rfl), He.free_ok X G (c.fact 48 (f := .free "isinstance") rfl), He.free_ok X G (c.fact 49 (f := .free "len") rfl), He.free_ok X G (c.fact 50 (f := .free "list") rfl), He.free_ok X G (c.fact 51 (f := .free "range") rfl), He.free_ok X G (c.fact 52 (f := .free "repr") rfl), He.free_ok X G (c.fact 53 (f := .free "sorted") rfl), He.free_ok X G (c.fact 54 (f := .free "str") rfl), He.free_ok X G (c.fact 55 (f := .free "tuple") rfl), He.free_ok X G (c.fact 56 (f := .free "zip") rfl), _, ⟨_, He.glo_ok X G (c.fact 57 (f := .glo "EMPTY") rfl), rfl⟩, fun F => .tup (c.tup 0 (x := "EMPTY") (vs := [(.str "empty")]) rfl F) (.cons (.str _) .nil), _, ⟨_, He.glo_ok X G (c.fact 58 (f := .glo "GROUPING") rfl), rfl⟩, fun F => .tup (c.tup 1 (x := "GROUPING") (vs := [(.str "count"), (.str "sum"), (.str "heads")]) rfl F) (.cons (.str _) (.cons (.str _) (.cons (.str _) .nil))), _, ⟨_, He.glo_ok X G (c.fact 59 (f := .glo "SORTING") rfl), rfl⟩, fun F => .tup (c.tup 2 (x := "SORTING") (vs := [(.str "sort"), (.str "stable")]) rfl F) (.cons (.str _) (.cons (.str _) .nil))⟩ : Txt P w base K mg) holds⟩
end Lw
open PySem PySem.W PySem.Calls PyProof.Rows
set_option maxRecDepth 100000 in
set_option maxHeartbeats 0 in
theorem PySem.Challenge.cw_openties_k12_knowledge_by_rules_holds : PySem.Challenge.rw_openties_k12_knowledge_by_rules.Holds := by
  w_on; o_law
  refine HandSHeadRun.head_any (r := OpenLaw.row PySem.Challenge.rw_openties_k12_knowledge_by_rules) (q := view (OpenLaw.row PySem.Challenge.rw_openties_k12_knowledge_by_rules).prog [53]) (H := Lw.hk) (ob := Lw.ob) (M := 4000) (loose := Lw.looseN) (d := HandSHeadRun.topDef (OpenLaw.row PySem.Challenge.rw_openties_k12_knowledge_by_rules).prog 53) (kwd := []) Lw.ob_eq
    (by kernel_rfl) (fun s => by kernel_rfl) Lw.run (by kernel_rfl) (by kernel_rfl) (by kernel_rfl) (by rfl) (by first | assumption | decide +kernel) (by decide +kernel) ⟨rfl, rfl, rfl, rfl, rfl, by decide +kernel⟩ ?hw ?hc
  case hw => w_witness2
  case hc =>
    refine Pu.walk_ofG (l := PySem.Challenge.rw_openties_k12_knowledge_by_rules) (n := 63) (k := 11) (x := "script") rfl (by decide) (by kernel_rfl) ⟨rfl, by decide, by decide⟩ ?F
    intro w mg fa h Y G hmg0
    obtain ⟨sy, K, KX, c⟩ := Y
    have hmg : mg ("law" : PySem.Str) = some (.ref fa) := by
      have e : (HandSHeadRun.topDef (OpenLaw.row PySem.Challenge.rw_openties_k12_knowledge_by_rules).prog 53).name = ("law" : PySem.Str) := by kernel_rfl
      rw [← e]
      exact hmg0
    obtain ⟨fd, hb, hF⟩ := Lw.facts (P := (PySem.Challenge.rw_openties_k12_knowledge_by_rules).prog) (w := w) Lw.holds KX G hmg c
    exact ⟨sy, K, fd, Lw.spLawTop K, KX, hb, fun H a ns hl hS => ⟨a, ns, rfl, hS, hl, fun _ => rfl⟩, hF⟩
