import PyProof.Rows.All
import HandS.ForMost
import HandS.Wide
import HandS.Strs
import HandS.TupSets
import HandS.TupAny
import HandS.TupMul
import HandS.Lambda
import HandS.Flow
import HandS.Style
import HandS.IsInst
import HandS.Deep
import HandS.Conv
import HandS.Zip
import HandS.Replace
import HandS.Defaults
import HandS.SetKeys
import KE.KSortTupG
import KE.SortCalls
import PyProof.StrWalks
import KE.SortData
import HandS.Head2
import HandS.HeadEnd
import HandS.HeadHook1
import HandS.HeadHook2
import PyProof.ReprRoads
import HandS.Ends
import HandS.Words
import PyProof.EqKinds
import PyProof.P3Eq
import PyProof.P3In
import PyProof.FactsAll.dict_1
import PyProof.ListStr
import KE.GoesMore
import KE.GoesEnum
import PyProof.ReprBulk
import PyProof.StrLawsIn
import HandS.ReplaceList
import PyProof.CollectStr
import PyProof.DictMoreH
import KE.KEqDeep
import HandS.Text
import PyProof.TupleOfSeq
import KE.KDictPairs
import HandS.Small
import HandS.DictTup
import KE.KDictItemsList
import KE.KItemsList
import PyProof.StrBlock2
import KE.SortKeyHeap
import HandS.SortKw
import HandS.HeadHook4
import HandS.EndTab
import KE.KDictSum
import KE.KDictCopyH
import HandS.Star
import KE.GoesNew
import HandS.Exc
import HandS.ExcOwn
import HandS.ExcIs
import HandS.WordsExc
import PySem.Challenge.RW_openties_k10_first_scripts
import HandS.Base
import HandS.Call
import HandS.More
import HandS.Head0
import HandS.Head1
import KE.KStateDown
set_option Elab.async false
set_option linter.all false
set_option maxRecDepth 100000
set_option maxHeartbeats 4000000
set_option autoImplicit false
namespace Pu
open PySem PySem.Spec PyProof.Rows L2
/-- a tuple that is plain, by the settled part of the heap or by what stands at the top -/
def PlT (K : PySem.W.Frag) (F : Hp) (a : Addr) (xs : List V) : Prop := (∃ o, F a = some (.frz o (.tup xs)) ∧ o.dict = none) ∨
  ∃ (o : Obj) (its : Array Value) (n : Nat), K.lookup a = some o ∧ o.cls = .type "tuple" ∧ o.data = .seq its n ∧ its.size ≤ sizeLine ∧ Vals xs its.toList ∧ o.dict = none
theorem PlT.sq {K : PySem.W.Frag} {F : Hp} {a : Addr} {xs : List V} (h : PlT K F a xs) : SqT K F a xs := by
  rcases h with ⟨o, h, _⟩ | ⟨o, its, n, h1, h2, h3, h4, h5, _⟩
  · exact .inl (.inr ⟨o, h⟩)
  · exact .inr ⟨o, its, n, h1, h2, h3, h4, h5⟩
theorem PlT.mono {K : PySem.W.Frag} {F G : Hp} {a : Addr} {xs : List V} (e : ∀ b o, F b = some o → G b = some o) (h : PlT K F a xs) : PlT K G a xs := h.imp (fun ⟨o, h, d⟩ => ⟨o, e _ _ h, d⟩) id
/-- what a new tuple of these gives -/
abbrev NewT (H : Hp) (Q : VK) (xs : List V) : Prop := ∀ (q : Addr) (ob : Obj), H q = none → ob.dict = none → Q (.ref q) (upd H q (.frz ob (.tup xs)))
abbrev tupO (its : List Value) : Obj := { cls := .type "tuple", data := .seq its.toArray }
section
variable {X : Cx} {pins : List (Addr × Obj)} {σ : L2.St} {H : Hp} {s : Shared} {xs ys : List V} {its : List Value}
theorem laidT (I : Inv X pins σ H s) (r : Vals xs its) (z : xs.length ≤ sizeLine) : Inv X pins σ (upd H s.heap.objs.size (.frz (tupO its) (.tup xs))) { s with heap := s.heap.push (tupO its) } :=
  I.laid (t' := s.toks) (fun b u e => Heap.get?_push_of_some _ e) (Nat.le_refl _) ⟨Heap.get?_push_size _ rfl, z, its, r, ⟨_, Heap.get?_push_size _ rfl, rfl, _, rfl⟩⟩
theorem newT (I : Inv X pins σ H s) {Q : VK} (q : NewT H Q xs) : Q (.ref s.heap.objs.size) (upd H s.heap.objs.size (.frz (tupO its) (.tup xs))) := q _ _ (I.hok.fresh (Nat.le_refl _)) rfl
def tTupP (t : TA) : TE := fun σ H Q => t σ H fun vs H1 => vs.length ≤ sizeLine ∧ NewT H1 Q vs
theorem pe_tupP {es : List Expr} {t : TA} {pos : Pos} {x1 : Nat} (h : PA X es t) : PE X (.Tuple es x1 pos) (tTupP t) :=
  ⟨fun pins s σ H Q I hq => wpAny_Tuple_spliced (thn (h.run pos pins s σ H _ I hq) fun us s1 ⟨vs, H1, I1, r, z, q⟩ => ⟨by rw [← r.length]; exact z, .ref s1.heap.objs.size, _, laidT I1 r z, rfl, newT I1 q⟩)⟩
def rCatP (K : PySem.W.Frag) : R2 := fun x y H Q => ∃ a b xs ys, x = .ref a ∧ y = .ref b ∧ SqT K H a xs ∧ SqT K H b ys ∧ xs.length + ys.length ≤ sizeLine ∧ (xs = [] → Q (.ref b) H) ∧ (xs ≠ [] → ys = [] → Q (.ref a) H) ∧ (xs ≠ [] → ys ≠ [] → NewT H Q (xs ++ ys))
theorem op_catP : OpR X (binaryOp .Add) (rCatP X.K) := by
  intro pins s σ H x y v u Q I rx ry ⟨a, b, xs, ys, e1, e2, ha, hb, hz, q0, q1, q2⟩
  subst e1 e2
  by_cases hx : xs = []
  · exact op_catA pins s σ H _ _ v u Q I rx ry ⟨a, b, xs, ys, rfl, rfl, ha, hb, hz, q0, q1, fun z => absurd hx z⟩
  · cases rx
    cases ry
    obtain ⟨is, r1, p1, _⟩ := I.tuple ha
    obtain ⟨js, r2, p2, _⟩ := I.tuple hb
    refine HT.cat_tup p1 p2 (fun z => hx (r1.nil_iff.mp z)) (fun z => ⟨.ref a, H, I, rfl, q1 hx (r2.nil_iff.mp z)⟩) (fun z => ⟨.ref s.heap.objs.size, _, ?_, rfl, newT (its := is ++ js) I (q2 hx fun e => z (r2.nil_iff.mpr e))⟩) (by rw [← r1.length, ← r2.length]; exact hz)
    exact laidT I (r1.append r2) (by rw [List.length_append]; exact hz)
def rSlP (K : PySem.W.Frag) : V → Option Int → Option Int → Hp → VK → Prop := fun x lo hi H Q => ∃ a xs, x = .ref a ∧ SqT K H a xs ∧
  (HT.sIx xs.length 0 lo = 0 ∧ HT.sIx xs.length xs.length hi = xs.length → Q (.ref a) H) ∧ (¬ (HT.sIx xs.length 0 lo = 0 ∧ HT.sIx xs.length xs.length hi = xs.length) → NewT H Q (cutV xs lo hi))
theorem sl_tupP : SlR X (rSlP X.K) := by
  intro pins s σ H x v vl vu lo hi sl Q I rx hs pl pu ⟨a, xs, e1, hx, q1, q2⟩
  by_cases hw : HT.sIx xs.length 0 lo = 0 ∧ HT.sIx xs.length xs.length hi = xs.length
  · exact sl_tupA pins s σ H x v vl vu lo hi sl Q I rx hs pl pu ⟨a, xs, e1, hx, q1, fun z => absurd hw z⟩
  · subst e1
    cases rx
    obtain ⟨is, r, ht, hz⟩ := I.tuple hx
    have hlen : is.toArray.size = xs.length := List.size_toArray.trans r.length.symm
    refine ⟨"tuple", _, PyProof.Rows.slot_tuple_getitem.lookup, ht.typeIs, HT.getItem_tuple_cut ht hs pl pu (by rw [hlen]; exact hw) ?_ (by rw [hlen]; exact hz)⟩
    rw [hlen]
    exact ⟨.ref s.heap.objs.size, _, laidT I ((r.drop (HT.sIx xs.length 0 lo)).take (HT.sIx xs.length xs.length hi - HT.sIx xs.length 0 lo)) (Nat.le_trans (cutV_length xs lo hi) hz), rfl, newT I (q2 hw)⟩
theorem call_tupleP : CallR X (.type "tuple") (fun vs H Q => ∃ p ys, vs = [.ref p] ∧ ((SqL X.K H p ys ∧ NewT H Q ys) ∨ (SqT X.K H p ys ∧ Q (.ref p) H))) := by
  intro pins s σ H vs us Q I r ⟨p, ys, e, h⟩
  subst e
  obtain ⟨u, rfl, rx⟩ := vals1 r
  cases rx
  rcases h with ⟨hq, q⟩ | ⟨hq, q⟩
  · obtain ⟨is, r', pl, hz⟩ := I.list hq
    have hlen := r'.length
    refine call_tuple_list pl.isList (fun h2 kp => let I1 : Inv X pins σ H { s with heap := h2 } := I.kept (t' := s.toks) kp; ⟨.ref h2.objs.size, _, laidT I1 r' hz, rfl, newT (its := is) I1 q⟩) ?_
    simp only [List.size_toArray]
    omega
  · obtain ⟨is, r', pl, hz⟩ := I.tuple hq
    exact call_tuple_same pl ⟨.ref p, H, I, rfl, q⟩
end
end Pu
namespace Pu
open PySem PySem.Spec PyProof.Rows L2
/-- a text or a whole number as a datum -/
def atD : Key → PyData
  | .inl i => .int i
  | .inr z => .str z
mutual
/-- a value stands for a datum, by the settled part F of the heap -/
inductive RV (K : PySem.W.Frag) (F : Hp) : V → PyData → Prop
  | non : RV K F .non .none
  | bl (b : Bool) : RV K F (.bl b) (.bool b)
  | int (i : Int) : RV K F (.int i) (.int i)
  | str (x : Str) : RV K F (.str x) (.str x)
  | lst {a : Addr} {xs : List V} {ds : List PyData} : F a = some (.lst xs) → RVs K F xs ds → RV K F (.ref a) (.list ds)
  | tup {a : Addr} {xs : List V} {ds : List PyData} : PlT K F a xs → RVs K F xs ds → RV K F (.ref a) (.tuple ds)
  | dct {a : Addr} {kvs : List (Str × Key)} {ds : List (PyData × PyData)} : F a = some (.dK (kvs.map fun p => (Sum.inr p.1, kV p.2))) → ds = kvs.map (fun p => (PyData.str p.1, atD p.2)) → RV K F (.ref a) (.dict ds)
inductive RVs (K : PySem.W.Frag) (F : Hp) : List V → List PyData → Prop
  | nil : RVs K F [] []
  | cons {v : V} {vs : List V} {d : PyData} {ds : List PyData} : RV K F v d → RVs K F vs ds → RVs K F (v :: vs) (d :: ds)
end
theorem Same.tup {K : PySem.W.Frag} {F G : Hp} {a : Addr} {xs : List V} (e : Same F G) (h : SqT K F a xs) : SqT K G a xs := by
  rcases h with (h | ⟨o, h⟩) | h
  · exact .inl (.inl (e _ _ h))
  · exact .inl (.inr ⟨o, e _ _ h⟩)
  · exact .inr h
section
variable {K : PySem.W.Frag} {F G : Hp}
mutual
theorem RV.mono (e : Same F G) : ∀ {v : V} {d : PyData}, RV K F v d → RV K G v d
  | _, _, .non => .non
  | _, _, .bl b => .bl b
  | _, _, .int i => .int i
  | _, _, .str x => .str x
  | _, _, .lst h r => .lst (e _ _ h) (RVs.mono e r)
  | _, _, .tup h r => .tup (h.mono e) (RVs.mono e r)
  | _, _, .dct h ed => .dct (e _ _ h) ed
theorem RVs.mono (e : Same F G) : ∀ {vs : List V} {ds : List PyData}, RVs K F vs ds → RVs K G vs ds
  | _, _, .nil => .nil
  | _, _, .cons r t => .cons (RV.mono e r) (RVs.mono e t)
end
theorem RVs.len : ∀ {vs : List V} {ds : List PyData}, RVs K F vs ds → vs.length = ds.length
  | _, _, .nil => rfl
  | _, _, .cons _ t => congrArg (· + 1) (RVs.len t)
theorem RVs.at' : ∀ {vs : List V} {ds : List PyData} {i : Nat} {d : PyData}, RVs K F vs ds → ds[i]? = some d → ∃ v, vs[i]? = some v ∧ RV K F v d
  | _, _, _, _, .nil, h => by simp at h
  | _, _, 0, _, .cons r _, h => by simp at h; subst h; exact ⟨_, rfl, r⟩
  | _, _, i + 1, d, .cons _ t, h => by
    obtain ⟨v, h1, h2⟩ := RVs.at' (i := i) (d := d) t (by simpa using h)
    exact ⟨v, by simpa using h1, h2⟩
theorem RVs.app : ∀ {vs ws : List V} {ds es : List PyData}, RVs K F vs ds → RVs K F ws es → RVs K F (vs ++ ws) (ds ++ es)
  | _, _, _, _, .nil, s => s
  | _, _, _, _, .cons r t, s => .cons r (RVs.app t s)
theorem RVs.drop' : ∀ {vs : List V} {ds : List PyData} (n : Nat), RVs K F vs ds → RVs K F (vs.drop n) (ds.drop n)
  | _, _, 0, r => r
  | _, _, _ + 1, .nil => .nil
  | _, _, n + 1, .cons _ t => RVs.drop' n t
theorem RVs.take' : ∀ {vs : List V} {ds : List PyData} (n : Nat), RVs K F vs ds → RVs K F (vs.take n) (ds.take n)
  | _, _, 0, _ => .nil
  | _, _, _ + 1, .nil => .nil
  | _, _, n + 1, .cons r t => .cons r (RVs.take' n t)
theorem RVs.one {v : V} {d : PyData} (r : RV K F v d) : RVs K F [v] [d] := .cons r .nil
end
/-- the numbers a pen may hold -/
structure PenInv (cells : List Int) (at_ cur : Int) (b : Nat) : Prop where
  at0 : 0 ≤ at_
  most : at_ + b ≤ 2 ^ 32
  cur0 : 0 ≤ cur
  few : cells.length ≤ 12
/-- the tables of code objects that are followed: told by the last entry of the written part, which no look-up finds -/
def tabPairs : List Value → List (Addr × Str)
  | .ref a :: .str q _ :: r => (a, q) :: tabPairs r
  | _ => []
def tabF (K : PySem.W.Frag) : List (Addr × Str) := match K.getLast? with
  | some (_, ⟨_, _, .seq its _, _⟩) => tabPairs its.toList
  | _ => []
structure Pens where
  pa : Addr
  ca : Addr
  tb : List (Addr × Str)
abbrev Pn := Option Pens
/-- the tables of code objects: what they tell is settled -/
def TabsIs (T : List (Addr × Str)) (F H : Hp) : Prop := ∀ p ∈ T, F p.1 = none ∧ ∃ ps : Array Value, H p.1 = some (.tbl ps) ∧ TriplesOk ps.toList ∧ ∀ (pos : Pos) (cv : Value), codeAmong pos ps.toList = some cv → ∃ c, cv = .ref c ∧ F c = some (LamX.CodeO c p.2)
theorem TabsIs.to {T : List (Addr × Str)} {F H F' H' : Hp} (t : TabsIs T F H) (s : Same F F') (e : ∀ p ∈ T, F' p.1 = none ∧ H' p.1 = H p.1) : TabsIs T F' H' := fun p hp =>
  let ⟨_, ps, h1, h2, h3⟩ := t p hp
  ⟨(e p hp).1, ps, (e p hp).2.trans h1, h2, fun pos cv hc => let ⟨c, e1, e2⟩ := h3 pos cv hc; ⟨c, e1, s _ _ e2⟩⟩
theorem TabsIs.at_ {T : List (Addr × Str)} {F H : Hp} (t : TabsIs T F H) {p : Addr × Str} (hp : p ∈ T) {a : Addr} (h : H a = none) : a ≠ p.1 := fun z => by
  obtain ⟨_, ps, h1, _⟩ := t p hp
  rw [← z, h] at h1
  cases h1
def PenIs (pn : Pn) (b : Nat) (F H : Hp) : Prop := match pn with
  | none => True
  | some q => F q.pa = none ∧ F q.ca = none ∧ q.pa ≠ q.ca ∧ TabsIs q.tb F H ∧ ∃ (cells : List Int) (at_ cur : Int), H q.pa = some (.lst [.ref q.ca, .int at_, .int cur]) ∧ H q.ca = some (.lst (cells.map V.int)) ∧ PenInv cells at_ cur b
def NotPen (pn : Pn) (a : Addr) : Prop := ∀ q, pn = some q → a ≠ q.pa ∧ ∀ p ∈ q.tb, a ≠ p.1
def NotCa (pn : Pn) (a : Addr) : Prop := ∀ q, pn = some q → a ≠ q.ca
structure Ok (pn : Pn) (b : Nat) (F H : Hp) : Prop where
  sub : Same F H
  pen : PenIs pn b F H
structure Ext (pn : Pn) (F H F' H' : Hp) : Prop where
  fsub : Same F F'
  keep : ∀ a o, H a = some o → F a = none → NotPen pn a → H' a = some o ∧ F' a = none
section
variable {pn : Pn} {b b1 b2 : Nat} {F H F1 H1 F2 H2 : Hp}
theorem Ext.refl : Ext pn F H F H := ⟨Same.refl _, fun _ _ h q _ => ⟨h, q⟩⟩
theorem Ext.trans (x : Ext pn F H F1 H1) (y : Ext pn F1 H1 F2 H2) : Ext pn F H F2 H2 :=
  ⟨x.fsub.trans y.fsub, fun a o h q n => let ⟨h1, q1⟩ := x.keep a o h q n; y.keep a o h1 q1 n⟩
theorem Ok.free (k : Ok pn b F H) {p : Addr} (h : H p = none) : F p = none := k.sub.free h
theorem same_upd2 {F H : Hp} (s : Same F H) {p : Addr} {o : HO} : Same (upd F p o) (upd H p o) := fun a u e => by
  by_cases h : a = p
  · subst h; rw [upd_same] at e ⊢; exact e
  · rw [upd_ne h] at e ⊢; exact s a u e
theorem same_new {H : Hp} {p : Addr} {o : HO} (h : H p = none) : Same H (upd H p o) := fun a u e => by
  rw [upd_ne (ne_of_none e h)]; exact e
theorem same_upd {F : Hp} {p : Addr} {o : HO} (h : F p = none) : Same F (upd F p o) := fun a u e => by
  rw [upd_ne (fun z => by rw [z, h] at e; cases e)]; exact e
theorem PenIs.new {p : Addr} {o : HO} (k : PenIs pn b F H) (fp : F p = none) (h : H p = none) : PenIs pn b (upd F p o) (upd H p o) := by
  match pn, k with
  | none, _ => trivial
  | some q, ⟨f1, f2, ne, tb, cells, at_, cur, h1, h2, i⟩ =>
    have n1 : q.pa ≠ p := ne_of_none h1 h
    have n2 : q.ca ≠ p := ne_of_none h2 h
    exact ⟨by rw [upd_ne n1]; exact f1, by rw [upd_ne n2]; exact f2, ne, tb.to (same_upd fp) fun t ht => ⟨by rw [upd_ne (tb.at_ ht h).symm]; exact (tb t ht).1, by rw [upd_ne (tb.at_ ht h).symm]⟩, cells, at_, cur, by rw [upd_ne n1]; exact h1, by rw [upd_ne n2]; exact h2, i⟩
/-- another object is written -/
theorem PenIs.wr {p : Addr} {o : HO} (k : PenIs pn b F H) (np : NotPen pn p) (nc : NotCa pn p) : PenIs pn b F (upd H p o) := by
  match pn, k, np, nc with
  | none, _, _, _ => trivial
  | some q, ⟨f1, f2, ne, tb, cells, at_, cur, h1, h2, i⟩, np, nc =>
    exact ⟨f1, f2, ne, tb.to (Same.refl _) fun t ht => ⟨(tb t ht).1, upd_ne ((np q rfl).2 t ht).symm⟩, cells, at_, cur, by rw [upd_ne (np q rfl).1.symm]; exact h1, by rw [upd_ne (nc q rfl).symm]; exact h2, i⟩
theorem PenIs.apartN (k : PenIs pn b F H) {p : Addr} (h : H p = none) : NotPen pn p ∧ NotCa pn p := by
  refine ⟨fun q e => ?_, fun q e z => ?_⟩
  · subst e
    obtain ⟨_, _, _, tb, cells, at_, cur, h1, _⟩ := k
    exact ⟨fun z => (by rw [← z, h] at h1; cases h1), fun t ht => tb.at_ ht h⟩
  · subst e
    obtain ⟨_, _, _, _, cells, at_, cur, _, h2, _⟩ := k
    rw [← z, h] at h2; cases h2
theorem PenIs.own {p : Addr} {o : HO} (k : PenIs pn b F H) (h : H p = none) : PenIs pn b F (upd H p o) := k.wr (k.apartN h).1 (k.apartN h).2
/-- a new settled object -/
theorem Ok.new {p : Addr} {o : HO} (k : Ok pn b F H) (h : H p = none) : Ok pn b (upd F p o) (upd H p o) := ⟨same_upd2 k.sub, k.pen.new (k.free h) h⟩
theorem Ext.new {p : Addr} {o : HO} (k : Ok pn b F H) (h : H p = none) : Ext pn F H (upd F p o) (upd H p o) :=
  ⟨same_new (k.free h), fun a u e q _ => by
    have n : a ≠ p := ne_of_none e h
    rw [upd_ne n, upd_ne n]; exact ⟨e, q⟩⟩
/-- a new object of one's own -/
theorem Ok.own {p : Addr} {o : HO} (k : Ok pn b F H) (h : H p = none) : Ok pn b F (upd H p o) := ⟨k.sub.trans (same_new h), k.pen.own h⟩
theorem Ext.own {p : Addr} {o : HO} (h : H p = none) : Ext pn F H F (upd H p o) :=
  ⟨Same.refl _, fun a u e q _ => by rw [upd_ne (ne_of_none e h)]; exact ⟨e, q⟩⟩
/-- an own object is settled -/
theorem Ok.settle {p : Addr} {o : HO} (k : Ok pn b F H) (h : H p = some o) (f : F p = none) (n : NotPen pn p) (nc : NotCa pn p) : Ok pn b (upd F p o) H := by
  refine ⟨fun a u e => ?_, ?_⟩
  · by_cases q : a = p
    · subst q; rw [upd_same] at e; cases e; exact h
    · rw [upd_ne q] at e; exact k.sub a u e
  · have kp := k.pen
    match pn, kp, n, nc with
    | none, _, _, _ => trivial
    | some q, ⟨f1, f2, ne, tb, cells, at_, cur, h1, h2, i⟩, n, nc =>
      exact ⟨by rw [upd_ne (n q rfl).1.symm]; exact f1, by rw [upd_ne (nc q rfl).symm]; exact f2, ne, tb.to (same_upd f) fun t ht => ⟨by rw [upd_ne ((n q rfl).2 t ht).symm]; exact (tb t ht).1, rfl⟩, cells, at_, cur, h1, h2, i⟩
theorem PenIs.le {b' : Nat} (k : PenIs pn b F H) (h : b' ≤ b) : PenIs pn b' F H := by
  match pn, k with
  | none, _ => trivial
  | some q, ⟨f1, f2, ne, tb, cells, at_, cur, h1, h2, i⟩ =>
    exact ⟨f1, f2, ne, tb, cells, at_, cur, h1, h2, i.at0, by have := i.most; omega, i.cur0, i.few⟩
end
inductive Sl where
  | d (x : PyData)
  | l (xs : List PyData)
  | r (xs : List PyData)
  | p
  | k (kvs : List (Str × PyData))
def Sl.isOwn : Sl → Bool
  | .l _ => true
  | .k _ => true
  | _ => false
/-- a dict of one's own, its keys texts -/
inductive KVs (K : PySem.W.Frag) (F : Hp) : List (Key × V) → List (Str × PyData) → Prop
  | nil : KVs K F [] []
  | cons {x : Str} {v : V} {d : PyData} {vs : List (Key × V)} {ds : List (Str × PyData)} : RV K F v d → KVs K F vs ds → KVs K F ((.inr x, v) :: vs) ((x, d) :: ds)
theorem KVs.mono {K : PySem.W.Frag} {F G : Hp} (e : Same F G) : ∀ {vs : List (Key × V)} {ds : List (Str × PyData)}, KVs K F vs ds → KVs K G vs ds
  | _, _, .nil => .nil
  | _, _, .cons r t => .cons (r.mono e) (KVs.mono e t)
def OwnK (K : PySem.W.Frag) (pn : Pn) (F H : Hp) (v : V) (xs : List (Str × PyData)) : Prop :=
  ∃ a vs, v = .ref a ∧ F a = none ∧ NotPen pn a ∧ NotCa pn a ∧ H a = some (.dK vs) ∧ KVs K F vs xs
abbrev En := List (Option Sl)
/-- a list of one's own, not settled -/
def OwnL (K : PySem.W.Frag) (pn : Pn) (F H : Hp) (v : V) (xs : List PyData) : Prop :=
  ∃ a vs, v = .ref a ∧ F a = none ∧ NotPen pn a ∧ NotCa pn a ∧ H a = some (.lst vs) ∧ RVs K F vs xs
def SlIs (K : PySem.W.Frag) (pn : Pn) (F H : Hp) (v : V) : Sl → Prop
  | .d x => RV K F v x
  | .l xs => OwnL K pn F H v xs
  | .r xs => OwnL K pn F H v xs
  | .p => ∃ (u : Unit) (q : Pens), pn = some q ∧ v = .ref q.pa
  | .k xs => OwnK K pn F H v xs
/-- a datum that is read: settled, or a list of one's own -/
def BV (K : PySem.W.Frag) (pn : Pn) (F H : Hp) (v : V) (d : PyData) : Prop := RV K F v d ∨ ∃ xs, d = .list xs ∧ OwnL K pn F H v xs
section
variable {K : PySem.W.Frag} {pn : Pn} {b b' : Nat} {F H F' H' : Hp} {v : V}
theorem OwnL.ext {xs : List PyData} (h : OwnL K pn F H v xs) (e : Ext pn F H F' H') : OwnL K pn F' H' v xs := by
  obtain ⟨a, vs, rfl, f, n, nc, ha, r⟩ := h
  obtain ⟨h1, f1⟩ := e.keep a _ ha f n
  exact ⟨a, vs, rfl, f1, n, nc, h1, r.mono e.fsub⟩
theorem OwnK.ext {xs : List (Str × PyData)} (h : OwnK K pn F H v xs) (e : Ext pn F H F' H') : OwnK K pn F' H' v xs := by
  obtain ⟨a, vs, rfl, f, n, nc, ha, r⟩ := h
  obtain ⟨h1, f1⟩ := e.keep a _ ha f n
  exact ⟨a, vs, rfl, f1, n, nc, h1, r.mono e.fsub⟩
theorem SlIs.ext {s : Sl} (h : SlIs K pn F H v s) (e : Ext pn F H F' H') : SlIs K pn F' H' v s := by
  match s, h with
  | .d x, h => exact RV.mono e.fsub h
  | .l xs, h => exact OwnL.ext h e
  | .r xs, h => exact OwnL.ext h e
  | .p, h => exact h
  | .k xs, h => exact OwnK.ext h e
theorem BV.ext {d : PyData} (h : BV K pn F H v d) (e : Ext pn F H F' H') : BV K pn F' H' v d := by
  rcases h with h | ⟨xs, rfl, h⟩
  · exact .inl (h.mono e.fsub)
  · exact .inr ⟨xs, rfl, h.ext e⟩
theorem BV.list {ds : List PyData} (h : BV K pn F H v (.list ds)) (k : Ok pn b F H) : ∃ a vs, v = .ref a ∧ H a = some (.lst vs) ∧ RVs K F vs ds := by
  rcases h with h | ⟨xs, e, a, vs, rfl, _, _, _, h, r⟩
  · cases h with
    | lst h r => exact ⟨_, _, rfl, k.sub _ _ h, r⟩
  · cases e; exact ⟨a, vs, rfl, h, r⟩
theorem BV.tup {ds : List PyData} (h : BV K pn F H v (.tuple ds)) (k : Ok pn b F H) : ∃ a vs, v = .ref a ∧ SqT K H a vs ∧ RVs K F vs ds := by
  rcases h with h | ⟨xs, e, _⟩
  · cases h with
    | tup h r => exact ⟨_, _, rfl, Same.tup k.sub h.sq, r⟩
  · cases e
theorem BV.int {i : Int} (h : BV K pn F H v (.int i)) : v = .int i := by
  rcases h with h | ⟨xs, e, _⟩
  · cases h; rfl
  · cases e
theorem BV.str {i : Str} (h : BV K pn F H v (.str i)) : v = .str i := by
  rcases h with h | ⟨xs, e, _⟩
  · cases h; rfl
  · cases e
theorem BV.bool {i : Bool} (h : BV K pn F H v (.bool i)) : v = .bl i := by
  rcases h with h | ⟨xs, e, _⟩
  · cases h; rfl
  · cases e
theorem BV.none' (h : BV K pn F H v .none) : v = .non := by
  rcases h with h | ⟨xs, e, _⟩
  · cases h; rfl
  · cases e
end
theorem SlIs.ownF {K : PySem.W.Frag} {pn : Pn} {F H : Hp} {a : Addr} : ∀ {s : Sl}, s.isOwn = true → SlIs K pn F H (.ref a) s → F a = none
  | .l _, _, ⟨_, _, e, f, _⟩ => by cases e; exact f
  | .k _, _, ⟨_, _, e, f, _⟩ => by cases e; exact f
structure Rep (K : PySem.W.Frag) (pn : Pn) (F H : Hp) (σ : L2.St) (env : En) (b : Nat) : Prop where
  ok : Ok pn b F H
  len : σ.length = env.length
  slot : ∀ (i : Nat) (s : Sl), env[i]? = some (some s) → ∃ v, σ[i]? = some (some v) ∧ SlIs K pn F H v s
  apart : ∀ (i j : Nat) (a : Addr) (xs ys : List PyData), i ≠ j → env[i]? = some (some (Sl.l xs)) → (env[j]? = some (some (Sl.l ys)) ∨ env[j]? = some (some (Sl.r ys))) → σ[i]? = some (some (V.ref a)) → σ[j]? ≠ some (some (V.ref a))
  tk : ∃ q, pn = some q ∧ q.tb = tabF K
theorem Rep.ext {K : PySem.W.Frag} {pn : Pn} {F H F' H' : Hp} {σ : L2.St} {env : En} {b b' : Nat} (r : Rep K pn F H σ env b) (k : Ok pn b' F' H') (e : Ext pn F H F' H') : Rep K pn F' H' σ env b' :=
  ⟨k, r.len, fun i s h => let ⟨v, h1, h2⟩ := r.slot i s h; ⟨v, h1, h2.ext e⟩, r.apart, r.tk⟩
abbrev WE := En → Nat → (PyData → Nat → Prop) → Prop
abbrev WT := En → Nat → (Bool → Nat → Prop) → Prop
abbrev WF := En → Nat → (List PyData → Nat → Prop) → Prop
abbrev WA := En → Nat → (List Sl → Nat → Prop) → Prop
abbrev WD := List Sl → Nat → (PyData → Nat → Prop) → Prop
structure PEnds where
  nx : En → Nat → Prop
  rt : PyData → Nat → Prop
  bk : En → Nat → Prop := fun _ _ => False
  ct : En → Nat → Prop := fun _ _ => False
  rl : List PyData → Nat → Prop := fun _ _ => False
  xr : Str → Nat → Prop := fun _ _ => False
abbrev WS := PEnds → En → Nat → Prop
/-- a value, settled -/
def lE (K : PySem.W.Frag) (t : WE) : TE := fun σ H Q => ∃ pn F env b P, Rep K pn F H σ env b ∧ t env b P ∧
  ∀ v d F' H' b', Ok pn b' F' H' → Ext pn F H F' H' → RV K F' v d → P d b' → Q v H'
/-- a value to be read only -/
def lB (K : PySem.W.Frag) (t : WE) : TE := fun σ H Q => ∃ pn F env b P, Rep K pn F H σ env b ∧ t env b P ∧
  ∀ v d F' H' b', Ok pn b' F' H' → Ext pn F H F' H' → BV K pn F' H' v d → P d b' → Q v H'
/-- a new list -/
def lF (K : PySem.W.Frag) (t : WF) : TE := fun σ H Q => ∃ pn F env b P, Rep K pn F H σ env b ∧ t env b P ∧
  ∀ v d F' H' b', Ok pn b' F' H' → Ext pn F H F' H' → OwnL K pn F' H' v d → (∀ a, v = .ref a → H a = none) → P d b' → Q v H'
def lT (K : PySem.W.Frag) (t : WT) : TT := fun σ H Q => ∃ pn F env b P, Rep K pn F H σ env b ∧ t env b P ∧
  ∀ k F' H' b', Ok pn b' F' H' → Ext pn F H F' H' → P k b' → Q k H'
def ArgsAre (K : PySem.W.Frag) (pn : Pn) (F H : Hp) : List V → List Sl → Prop
  | [], [] => ∃ q, pn = some q ∧ q.tb = tabF K
  | v :: vs, s :: ss => SlIs K pn F H v s ∧ s.isOwn = false ∧ ArgsAre K pn F H vs ss
  | _, _ => False
theorem ArgsAre.ext {K : PySem.W.Frag} {pn : Pn} {F H F' H' : Hp} (e : Ext pn F H F' H') : ∀ {vs : List V} {ss : List Sl}, ArgsAre K pn F H vs ss → ArgsAre K pn F' H' vs ss
  | [], [], h => h
  | _ :: _, _ :: _, ⟨h, n, t⟩ => ⟨h.ext e, n, ArgsAre.ext e t⟩
  | [], _ :: _, h => h.elim
  | _ :: _, [], h => h.elim
theorem ArgsAre.tk {K : PySem.W.Frag} {pn : Pn} {F H : Hp} : ∀ {vs : List V} {ss : List Sl}, ArgsAre K pn F H vs ss → ∃ q, pn = some q ∧ q.tb = tabF K
  | [], [], h => h
  | _ :: _, _ :: _, ⟨_, _, t⟩ => ArgsAre.tk t
  | [], _ :: _, h => h.elim
  | _ :: _, [], h => h.elim
theorem ArgsAre.len {K : PySem.W.Frag} {pn : Pn} {F H : Hp} : ∀ {vs : List V} {ss : List Sl}, ArgsAre K pn F H vs ss → vs.length = ss.length
  | [], [], _ => rfl
  | _ :: _, _ :: _, ⟨_, _, t⟩ => congrArg (· + 1) (ArgsAre.len t)
  | [], _ :: _, h => h.elim
  | _ :: _, [], h => h.elim
def lA (K : PySem.W.Frag) (t : WA) : TA := fun σ H Q => ∃ pn F env b P, Rep K pn F H σ env b ∧ t env b P ∧
  ∀ vs ss F' H' b', Ok pn b' F' H' → Ext pn F H F' H' → ArgsAre K pn F' H' vs ss → P ss b' → Q vs H'
structure RepS (K : PySem.W.Frag) (pn : Pn) (F0 H0 F H : Hp) (σ : L2.St) (env : En) (b : Nat) : Prop where
  rep : Rep K pn F H σ env b
  ext : Ext pn F0 H0 F H
  own : ∀ (i : Nat) (a : Addr) (s : Sl), s.isOwn = true → env[i]? = some (some s) → σ[i]? = some (some (V.ref a)) → H0 a = none
/-- a statement -/
def lS (K : PySem.W.Frag) (t : WS) : TS := fun D σ H => ∃ pn F0 H0 F env b PD, RepS K pn F0 H0 F H σ env b ∧ t PD env b ∧
  (∀ σ' F' H' env' b', RepS K pn F0 H0 F' H' σ' env' b' → (PD.nx env' b' → D.nx σ' H') ∧ (PD.bk env' b' → D.bk σ' H') ∧ (PD.ct env' b' → D.ct σ' H')) ∧
  (∀ v d F' H' b', Ok pn b' F' H' → Ext pn F0 H0 F' H' → RV K F' v d → PD.rt d b' → D.rt v H') ∧
  (∀ v ds F' H' b', Ok pn b' F' H' → Ext pn F0 H0 F' H' → OwnL K pn F' H' v ds → (∀ a, v = .ref a → H0 a = none) → PD.rl ds b' → D.rt v H')
/-- a def's promise by what it does to data -/
def spW (K : PySem.W.Frag) (f : WD) : Sp := fun vs H Q _ => ∃ pn F ss b P, Ok pn b F H ∧ ArgsAre K pn F H vs ss ∧ f ss b P ∧
  ∀ v d F' H' b', Ok pn b' F' H' → Ext pn F H F' H' → RV K F' v d → P d b' → Q v H'
section
variable {X : Cx} {e : Expr} {t u : TE}
theorem PE.imp (h : PE X e t) (i : ∀ σ H Q, u σ H Q → t σ H Q) : PE X e u := ⟨fun pins s σ H Q I q => h.run pins s σ H Q I (i _ _ _ q)⟩
theorem PT.imp {t u : TT} (h : PT X e t) (i : ∀ σ H Q, u σ H Q → t σ H Q) : PT X e u := ⟨fun pins s σ H Q I q => h.run pins s σ H Q I (i _ _ _ q)⟩
theorem PA.imp {es : List Expr} {t u : TA} (h : PA X es t) (i : ∀ σ H Q, u σ H Q → t σ H Q) : PA X es u := ⟨fun pos pins s σ H Q I q => h.run pos pins s σ H Q I (i _ _ _ q)⟩
theorem PS.imp {st : Stmt} {t u : TS} (h : PS X st t) (i : ∀ D σ H, u D σ H → t D σ H) : PS X st u := ⟨fun pins s σ H D I q => h.run pins s σ H D I (i _ _ _ q)⟩
theorem PSs.imp {st : List Stmt} {t u : TS} (h : PSs X st t) (i : ∀ D σ H, u D σ H → t D σ H) : PSs X st u := ⟨fun pins s σ H D I q => h.run pins s σ H D I (i _ _ _ q)⟩
end
abbrev EE (X : Cx) (e : Expr) (t : WE) : Prop := PE X e (lE X.K t)
abbrev EB (X : Cx) (e : Expr) (t : WE) : Prop := PE X e (lB X.K t)
abbrev EF (X : Cx) (e : Expr) (t : WF) : Prop := PE X e (lF X.K t)
abbrev ET (X : Cx) (e : Expr) (t : WT) : Prop := PT X e (lT X.K t)
abbrev EA (X : Cx) (es : List Expr) (t : WA) : Prop := PA X es (lA X.K t)
abbrev SS (X : Cx) (st : Stmt) (t : WS) : Prop := PS X st (lS X.K t)
abbrev SB (X : Cx) (st : List Stmt) (t : WS) : Prop := PSs X st (lS X.K t)
section
variable {X : Cx} {e : Expr}
theorem EE.eb {t : WE} (h : EE X e t) : EB X e t := PE.imp h fun σ H Q ⟨pn, F, env, b, P, r, q, k⟩ =>
  ⟨pn, F, env, b, P, r, q, fun v d F' H' b' o x rv p => k v d F' H' b' o x (.inl rv) p⟩
/-- a new list, settled at once -/
def fz (t : WF) : WE := fun env b P => t env b fun ds b' => P (.list ds) b'
theorem EF.ee {t : WF} (h : EF X e t) : EE X e (fz t) := PE.imp h fun σ H Q ⟨pn, F, env, b, P, r, q, k⟩ => by
  refine ⟨pn, F, env, b, _, r, q, fun v d F' H' b' o x ow nw p => ?_⟩
  obtain ⟨a, vs, rfl, f, n, nc, ha, rv⟩ := ow
  refine k (.ref a) (.list d) (upd F' a (.lst vs)) H' b' (o.settle ha f n nc) ⟨x.fsub.trans (same_new f), fun c u hc fc ncp => ?_⟩ (.lst upd_same (rv.mono (same_new f))) p
  obtain ⟨h1, f1⟩ := x.keep c u hc fc ncp
  have ne : c ≠ a := fun z => by rw [z, nw a rfl] at hc; cases hc
  exact ⟨h1, by rw [upd_ne ne]; exact f1⟩
end
end Pu
namespace Pu
open PySem PySem.Spec PyProof.Rows L2
/-- .. a settled value, the pen untouched -/
abbrev Go (K : PySem.W.Frag) (pn : Pn) (b : Nat) (F H : Hp) (P : PyData → Prop) (Q : VK) : Prop :=
  ∀ (w : V) (z : PyData) (F' H' : Hp), Ok pn b F' H' → Ext pn F H F' H' → RV K F' w z → P z → Q w H'
abbrev GoL (K : PySem.W.Frag) (pn : Pn) (b : Nat) (F H : Hp) (P : List PyData → Prop) (Q : VK) : Prop :=
  ∀ (w : V) (z : List PyData) (F' H' : Hp), Ok pn b F' H' → Ext pn F H F' H' → OwnL K pn F' H' w z → (∀ a, w = .ref a → H a = none) → P z → Q w H'
section
variable {K : PySem.W.Frag} {pn : Pn} {b : Nat} {F H : Hp} {P : PyData → Prop} {Q : VK}
theorem Go.tup (k : Go K pn b F H P Q) (o : Ok pn b F H) {vs : List V} {ds : List PyData} (r : RVs K F vs ds) (p : P (.tuple ds)) : NewT H Q vs := fun q ob hq hd =>
  k _ _ _ _ (o.new hq) (.new o hq) (.tup (.inl ⟨ob, upd_same, hd⟩) (r.mono (same_new (o.free hq)))) p
theorem Go.lst (k : Go K pn b F H P Q) (o : Ok pn b F H) {vs : List V} {ds : List PyData} (r : RVs K F vs ds) (p : P (.list ds)) : ∀ q, H q = none → Q (.ref q) (upd H q (.lst vs)) := fun q hq =>
  k _ _ _ _ (o.new hq) (.new o hq) (.lst upd_same (r.mono (same_new (o.free hq)))) p
theorem GoL.lst {P : List PyData → Prop} (k : GoL K pn b F H P Q) (o : Ok pn b F H) {vs : List V} {ds : List PyData} (r : RVs K F vs ds) (p : P ds) : ∀ q, H q = none → Q (.ref q) (upd H q (.lst vs)) := fun q hq => by
  refine k _ _ _ _ (o.own hq) (.own hq) ⟨q, vs, rfl, o.free hq, (o.pen.apartN hq).1, (o.pen.apartN hq).2, upd_same, r⟩ (fun a e => by cases e; exact hq) p
end
theorem Ext.back {pn : Pn} {b b' : Nat} {F H F' H' : Hp} (x : Ext pn F H F' H') (o : Ok pn b F H) (o' : Ok pn b' F' H') {a : Addr} (h : H' a = none) : H a = none := by
  cases e : H a with
  | none => rfl
  | some u =>
    cases f : F a with
    | some z =>
      have := o'.sub a z (x.fsub a z f)
      rw [h] at this; cases this
    | none =>
      by_cases n : NotPen pn a
      · have := (x.keep a u e f n).1
        rw [h] at this; cases this
      · exfalso
        exact n (o'.pen.apartN h).1
abbrev P2 := PyData → PyData → (PyData → Prop) → Prop
def Op2 (K : PySem.W.Frag) (r : R2) (p : P2) : Prop :=
  ∀ (pn : Pn) (b : Nat) (F H : Hp) (v u : V) (x y : PyData) (P : PyData → Prop) (Q : VK), Ok pn b F H → BV K pn F H v x → BV K pn F H u y → p x y P → Go K pn b F H P Q → r v u H Q
def wOp (p : P2) (ta tb : WE) : WE := fun env b P => ta env b fun x b1 => tb env b1 fun y b2 => p x y fun z => P z b2
section
variable {K : PySem.W.Frag} {r : R2} {p : P2} {ta tb : WE}
theorem op2 (o : Op2 K r p) {σ : L2.St} {H : Hp} {Q : VK} (h : lE K (wOp p ta tb) σ H Q) : tOp r (lB K ta) (lB K tb) σ H Q := by
  obtain ⟨pn, F, env, b, P, rep, t, k⟩ := h
  refine ⟨pn, F, env, b, _, rep, t, fun v x F1 H1 b1 o1 e1 bv1 t1 => ?_⟩
  refine ⟨pn, F1, env, b1, _, rep.ext o1 e1, t1, fun u y F2 H2 b2 o2 e2 bv2 t2 => ?_⟩
  exact o pn b2 F2 H2 v u x y _ Q o2 (bv1.ext e2) bv2 t2 fun w z F' H' o3 e3 rv q => k w z F' H' b2 o3 (e1.trans (e2.trans e3)) rv q
end
section
variable {X : Cx} {a c : Expr} {pos : Pos} {ta tb : WE} {r : R2} {p : P2}
theorem e_op {op : Operator} (ho : OpR X (binaryOp op) r) (o : Op2 X.K r p) (ha : EB X a ta) (hb : EB X c tb) : EE X (.BinOp a op c pos) (wOp p ta tb) := PE.imp (pe_op ho ha hb) fun _ _ _ => op2 o
theorem e_cmp {op : CmpOp} (ho : OpR X (compareOp op) r) (o : Op2 X.K r p) (ha : EB X a ta) (hb : EB X c tb) (hm : behindInMarks op c = false) : EE X (.Compare a [op] [c] pos) (wOp p ta tb) := PE.imp (pe_cmpR ho ha hb hm) fun _ _ _ => op2 o
/-- a bool as a test -/
def wTt (t : WE) : WT := fun env b P => t env b fun d b' => match d with | .bool k => P k b' | _ => False
theorem tt_of {K : PySem.W.Frag} {t : WE} {σ : L2.St} {H : Hp} {Q : Bool → Hp → Prop} (h : lT K (wTt t) σ H Q) : lE K t σ H fun x H' => ∃ k, x = .bl k ∧ Q k H' := by
  obtain ⟨pn, F, env, b, P, rep, t, k⟩ := h
  refine ⟨pn, F, env, b, _, rep, t, fun v d F' H' b' o e rv q => ?_⟩
  cases rv with
  | bl c => exact ⟨c, rfl, k c F' H' b' o e q⟩
  | _ => exact q.elim
theorem t_cmp {op : CmpOp} (ho : OpR X (compareOp op) r) (o : Op2 X.K r p) (ha : EB X a ta) (hb : EB X c tb) (hm : behindInMarks op c = false) : ET X (.Compare a [op] [c] pos) (wTt (wOp p ta tb)) := PT.imp (pt_cmpR ho ha hb hm) fun _ _ _ h => op2 o (tt_of h)
end
def pAdd : P2
  | .int i, .int j, P => P (.int (i + j))
  | .str s, .str t, P => s.length + t.length ≤ sizeLine ∧ P (.str (s ++ t))
  | .tuple xs, .tuple ys, P => xs.length + ys.length ≤ sizeLine ∧ P (.tuple (xs ++ ys))
  | .list xs, .list ys, P => xs.length + ys.length ≤ sizeLine ∧ P (.list (xs ++ ys))
  | _, _, _ => False
def rAddA (K : PySem.W.Frag) : R2 := fun x y H Q => (rI0 fun i j => .int (i + j)) x y H Q ∨ (∃ i j, x = .str i ∧ y = .str j ∧ i.length + j.length ≤ sizeLine ∧ Q (.str (i ++ j)) H) ∨ rCatP K x y H Q ∨ rCat x y H Q
theorem opr_add {X : Cx} : OpR X (binaryOp .Add) (rAddA X.K) := OpR.or op_add (OpR.or op_add_str (OpR.or op_catP op_cat))
theorem o_add {K : PySem.W.Frag} : Op2 K (rAddA K) pAdd := by
  intro pn b F H v u x y P Q o bv bu q k
  match x, y, q with
  | .int i, .int j, q => exact .inl ⟨i, j, bv.int, bu.int, k _ _ F H o .refl (.int _) q⟩
  | .str s, .str t, ⟨z, q⟩ => exact .inr (.inl ⟨s, t, bv.str, bu.str, z, k _ _ F H o .refl (.str _) q⟩)
  | .tuple xs, .tuple ys, ⟨z, q⟩ =>
    obtain ⟨a, vs, rfl, h1, r1⟩ := bv.tup o
    obtain ⟨c, us, rfl, h2, r2⟩ := bu.tup o
    refine .inr (.inr (.inl ⟨a, c, vs, us, rfl, rfl, h1, h2, by rw [r1.len, r2.len]; exact z, fun e => ?_, fun _ e => ?_, fun _ _ => k.tup o (r1.app r2) q⟩))
    · subst e
      cases r1
      rcases bu with bu | ⟨_, e, _⟩
      · exact k _ _ F H o .refl bu q
      · cases e
    · subst e
      cases r2
      rcases bv with bv | ⟨_, e, _⟩
      · exact k _ _ F H o .refl bv (by simpa using q)
      · cases e
  | .list xs, .list ys, ⟨z, q⟩ =>
    obtain ⟨a, vs, rfl, h1, r1⟩ := bv.list o
    obtain ⟨c, us, rfl, h2, r2⟩ := bu.list o
    exact .inr (.inr (.inr ⟨a, c, vs, us, rfl, rfl, h1, h2, by rw [r1.len, r2.len]; exact z, k.lst o (r1.app r2) q⟩))
def pI (C : Int → Int → Prop) (g : Int → Int → PyData) : P2
  | .int i, .int j, P => C i j ∧ P (g i j)
  | _, _, _ => False
theorem o_int {K : PySem.W.Frag} {C : Int → Int → Prop} {g : Int → Int → Int} : Op2 K (rI C fun i j => .int (g i j)) (pI C fun i j => .int (g i j)) := by
  intro pn b F H v u x y P Q o bv bu q k
  match x, y, q with
  | .int i, .int j, ⟨c, q⟩ => exact ⟨i, j, bv.int, bu.int, c, k _ _ F H o .refl (.int _) q⟩
theorem o_int0 {K : PySem.W.Frag} {g : Int → Int → Int} : Op2 K (rI0 fun i j => .int (g i j)) (pI (fun _ _ => True) fun i j => .int (g i j)) := by
  intro pn b F H v u x y P Q o bv bu q k
  match x, y, q with
  | .int i, .int j, ⟨c, q⟩ => exact ⟨i, j, bv.int, bu.int, k _ _ F H o .refl (.int _) q⟩
theorem o_intB {K : PySem.W.Frag} {g : Int → Int → Bool} : Op2 K (rI0 fun i j => .bl (g i j)) (pI (fun _ _ => True) fun i j => .bool (g i j)) := by
  intro pn b F H v u x y P Q o bv bu q k
  match x, y, q with
  | .int i, .int j, ⟨c, q⟩ => exact ⟨i, j, bv.int, bu.int, k _ _ F H o .refl (.bl _) q⟩
/-- list * int, int * int -/
def pMul : P2
  | .int i, .int j, P => CMul i j ∧ P (.int (i * j))
  | .list xs, .int k, P => -(2 ^ 63) ≤ k ∧ k < 2 ^ 63 ∧ xs.length * k.toNat ≤ sizeLine ∧ P (.list (List.replicate k.toNat xs).flatten)
  | _, _, _ => False
theorem RVs.rep {K : PySem.W.Frag} {F : Hp} {vs : List V} {ds : List PyData} (r : RVs K F vs ds) : ∀ n, RVs K F (List.replicate n vs).flatten (List.replicate n ds).flatten
  | 0 => .nil
  | n + 1 => by rw [List.replicate_succ, List.replicate_succ, List.flatten_cons, List.flatten_cons]; exact r.app (RVs.rep r n)
def rMulA : R2 := fun x y H Q => (rI CMul fun i j => .int (i * j)) x y H Q ∨ rRep x y H Q
theorem opr_mul {X : Cx} : OpR X (binaryOp .Mult) rMulA := OpR.or op_mul op_rep
mutual
theorem RV.dp {K : PySem.W.Frag} {F H : Hp} (s : Same F H) : ∀ {v : V} {d : PyData}, RV K F v d → d.canLay0 = true → Dp K H v d
  | _, _, .non, _ => .non
  | _, _, .bl b, _ => .bl b
  | _, _, .int i, _ => .int i
  | _, _, .str x, _ => .str x
  | _, _, .lst h r, c => .lst (SqL.of (s _ _ h)) (RVs.dp s r (by simpa [PyData.canLay0] using c))
  | _, _, .tup h r, c => .tup (Same.tup s h.sq) (RVs.dp s r (by simpa [PyData.canLay0] using c))
  | _, _, .dct h _, c => by simp [PyData.canLay0] at c
theorem RVs.dp {K : PySem.W.Frag} {F H : Hp} (s : Same F H) : ∀ {vs : List V} {ds : List PyData}, RVs K F vs ds → PyData.canLayAll0 ds = true → DpAll K H vs ds
  | _, _, .nil, _ => .nil
  | _, _, .cons (d := d) (ds := ds) r t, c => by
    have c' : d.canLay0 = true ∧ PyData.canLayAll0 ds = true := by simpa [PyData.canLayAll0] using c
    exact .cons (RV.dp s r c'.1) (RVs.dp s t c'.2)
end
theorem BV.dp {K : PySem.W.Frag} {pn : Pn} {b : Nat} {F H : Hp} {v : V} {d : PyData} (h : BV K pn F H v d) (o : Ok pn b F H) (c : d.canLay0 = true) : Dp K H v d := by
  rcases h with h | ⟨xs, rfl, a, vs, rfl, _, _, _, h, r⟩
  · exact h.dp o.sub c
  · exact .lst (SqL.of h) (r.dp o.sub (by simpa [PyData.canLay0] using c))
def pNe : P2 := fun x y P => SeqAt.shaped x = true ∧ SeqAt.shaped y = true ∧ P (.bool (!PyData.eqv x y))
theorem o_ne {K : PySem.W.Frag} : Op2 K (rNeD K) pNe := by
  intro pn b F H v u x y P Q o bv bu ⟨s1, s2, q⟩ k
  exact ⟨x, y, bv.dp o (SeqAt.canLay_of_shaped s1), bu.dp o (SeqAt.canLay_of_shaped s2), s1, s2, k _ _ F H o .refl (.bl _) q⟩
/-- is None, is True -/
def isNon : PyData → Bool
  | .none => true
  | _ => false
def pIs (neg : Bool) : P2
  | x, .none, P => P (.bool (neg ^^ isNon x))
  | .bool i, .bool j, P => P (.bool (neg ^^ decide (i = j)))
  | _, _, _ => False
def rIsA : R2 := fun x y H Q => (y = .non ∧ Q (.bl (decide (x = .non))) H) ∨ rIsB x y H Q
theorem opr_is {X : Cx} : OpR X (compareOp .Is) rIsA := OpR.or op_isN op_isBl
theorem BV.non_iff {K : PySem.W.Frag} {pn : Pn} {F H : Hp} {v : V} {d : PyData} (h : BV K pn F H v d) : decide (v = .non) = isNon d := by
  rcases h with h | ⟨xs, rfl, a, vs, rfl, _⟩
  · cases h <;> rfl
  · rfl
theorem o_is {K : PySem.W.Frag} : Op2 K rIsA (pIs false) := by
  intro pn b F H v u x y P Q o bv bu q k
  unfold pIs at q
  split at q
  · exact .inl ⟨bu.none', k _ _ F H o .refl (.bl _) (by rw [bv.non_iff]; simpa using q)⟩
  · exact .inr ⟨_, _, bv.bool, bu.bool, k _ _ F H o .refl (.bl _) (by simpa using q)⟩
  · exact q.elim
/-- x[i] -/
def pIx : P2
  | .list xs, .int i, P => match atI xs i with | some v => P v | none => False
  | .tuple xs, .int i, P => match atI xs i with | some v => P v | none => False
  | .str z, .int i, P => z.length ≤ sizeLine ∧ match atI z.cps.toList i with | some c => P (.str ⟨#[c]⟩) | none => False
  | _, _, _ => False
theorem RVs.atI' {K : PySem.W.Frag} {F : Hp} {vs : List V} {ds : List PyData} {i : Int} {d : PyData} (r : RVs K F vs ds) (h : atI ds i = some d) : ∃ v, atI vs i = some v ∧ RV K F v d := by
  unfold atI at h ⊢
  rw [r.len]
  cases e : ixN ds.length i with
  | none => rw [e] at h; cases h
  | some j => rw [e] at h; exact r.at' h
theorem o_ix {K : PySem.W.Frag} : Op2 K (rIx K) pIx := by
  intro pn b F H v u x y P Q o bv bu q k
  unfold pIx at q
  split at q
  · split at q
    · rename_i h
      obtain ⟨a, vs, rfl, h1, r1⟩ := bv.list o
      obtain ⟨w, hw, rw_⟩ := r1.atI' h
      exact .inl ⟨a, vs, _, w, rfl, bu.int, SqL.of h1, hw, k _ _ F H o .refl rw_ q⟩
    · exact q.elim
  · split at q
    · rename_i h
      obtain ⟨a, vs, rfl, h1, r1⟩ := bv.tup o
      obtain ⟨w, hw, rw_⟩ := r1.atI' h
      exact .inr (.inl ⟨a, vs, _, w, rfl, bu.int, h1, hw, k _ _ F H o .refl rw_ q⟩)
    · exact q.elim
  · obtain ⟨z, q⟩ := q
    split at q
    · rename_i h
      exact .inr (.inr ⟨_, _, _, bv.str, bu.int, z, h, k _ _ F H o .refl (.str _) q⟩)
    · exact q.elim
  · exact q.elim
section
variable {X : Cx} {a c : Expr} {pos : Pos} {ta tb : WE}
theorem e_ix (ha : EB X a ta) (hb : EB X c tb) (hs : PlainIx c) : EE X (.Subscript a c pos) (wOp pIx ta tb) := PE.imp (pe_ix ix_seq ha hb hs) fun _ _ _ => op2 o_ix
end
abbrev P1 := PyData → (PyData → Prop) → Prop
def Cl1 (K : PySem.W.Frag) (r : List V → Hp → VK → Prop) (p : P1) : Prop :=
  ∀ (pn : Pn) (b : Nat) (F H : Hp) (v : V) (x : PyData) (P : PyData → Prop) (Q : VK), Ok pn b F H → BV K pn F H v x → p x P → Go K pn b F H P Q → r [v] H Q
def w1 (p : P1) (ta : WE) : WE := fun env b P => ta env b fun x b1 => p x fun z => P z b1
def Cl1L (K : PySem.W.Frag) (r : List V → Hp → VK → Prop) (p : PyData → (List PyData → Prop) → Prop) : Prop :=
  ∀ (pn : Pn) (b : Nat) (F H : Hp) (v : V) (x : PyData) (P : List PyData → Prop) (Q : VK), Ok pn b F H → BV K pn F H v x → p x P → GoL K pn b F H P Q → r [v] H Q
def w1L (p : PyData → (List PyData → Prop) → Prop) (ta : WE) : WF := fun env b P => ta env b fun x b1 => p x fun z => P z b1
section
variable {X : Cx} {e : Expr} {ta : WE} {x : Str} {p pos : Pos} {id T : String} {r : List V → Hp → VK → Prop} {q : P1}
theorem cl1 {K : PySem.W.Frag} (c : Cl1 K r q) {σ : L2.St} {H : Hp} {Q : VK} (h : lE K (w1 q ta) σ H Q) : tCB r (tCons (lB K ta) tNil) σ H Q := by
  obtain ⟨pn, F, env, b, P, rep, t, k⟩ := h
  exact ⟨pn, F, env, b, _, rep, t, fun v x F1 H1 b1 o1 e1 bv t1 => c pn b1 F1 H1 v x _ _ o1 bv t1 fun w z F' H' o3 e3 rv pz => k w z F' H' b1 o3 (e1.trans e3) rv pz⟩
theorem cl1L {K : PySem.W.Frag} {q : PyData → (List PyData → Prop) → Prop} (c : Cl1L K r q) {σ : L2.St} {H : Hp} {Q : VK} (h : lF K (w1L q ta) σ H Q) : tCB r (tCons (lB K ta) tNil) σ H Q := by
  obtain ⟨pn, F, env, b, P, rep, t, k⟩ := h
  exact ⟨pn, F, env, b, _, rep, t, fun v x F1 H1 b1 o1 e1 bv t1 => c pn b1 F1 H1 v x _ _ o1 bv t1 fun w z F' H' o3 e3 rv nw pz => k w z F' H' b1 o3 (e1.trans e3) rv (fun a e => e1.back rep.ok o1 (nw a e)) pz⟩
theorem e_call1 (hc : CallR X (.builtin id) r) (c : Cl1 X.K r q) (hg : Gl X x) (hm : X.mg x = none) (hv : bootBuiltins x = some (.builtin id)) (ha : EB X e ta) (hn : x ≠ "__name__" := by decide) (hdb : (x == ("__debug__" : Str)) = false := by decide)
    (he : starEach [e] X.env = (false, eval e X.env) :: starEach [] X.env := by rfl) : EE X (.Call (.Name x p) [e] [] pos) (w1 q ta) := PE.imp (pe_callB hc hg hm hv (pa_cons ha pa_nil he) hn hdb he) fun _ _ _ => cl1 c
theorem e_ty1 (hc : CallR X (.type T) r) (c : Cl1 X.K r q) (hg : Gl X x) (hm : X.mg x = none) (hv : bootBuiltins x = some (.type T)) (ha : EB X e ta) (hn : x ≠ "__name__" := by decide) (hdb : (x == ("__debug__" : Str)) = false := by decide)
    (he : starEach [e] X.env = (false, eval e X.env) :: starEach [] X.env := by rfl) : EE X (.Call (.Name x p) [e] [] pos) (w1 q ta) := PE.imp (pe_callTy hc hg hm hv (pa_cons ha pa_nil he) hn hdb he) fun _ _ _ => cl1 c
theorem f_ty1 {q : PyData → (List PyData → Prop) → Prop} (hc : CallR X (.type T) r) (c : Cl1L X.K r q) (hg : Gl X x) (hm : X.mg x = none) (hv : bootBuiltins x = some (.type T)) (ha : EB X e ta) (hn : x ≠ "__name__" := by decide) (hdb : (x == ("__debug__" : Str)) = false := by decide)
    (he : starEach [e] X.env = (false, eval e X.env) :: starEach [] X.env := by rfl) : EF X (.Call (.Name x p) [e] [] pos) (w1L q ta) := PE.imp (pe_callTy hc hg hm hv (pa_cons ha pa_nil he) hn hdb he) fun _ _ _ => cl1L c
end
def pLen : P1
  | .str z, P => z.length ≤ sizeLine ∧ P (.int z.length)
  | .list xs, P => P (.int xs.length)
  | .tuple xs, P => P (.int xs.length)
  | _, _ => False
theorem c_len {X : Cx} : Cl1 X.K (fun xs H Q => ∃ x n, xs = [x] ∧ LenV X.K x H n ∧ Q (.int n) H) pLen := by
  intro pn b F H v x P Q o bv q k
  match x, q with
  | .str z, ⟨h, q⟩ =>
    have e := bv.str
    subst e
    exact ⟨_, z.length, rfl, ⟨h, rfl⟩, k _ _ F H o .refl (.int _) q⟩
  | .list xs, q =>
    obtain ⟨a, vs, rfl, h1, r1⟩ := bv.list o
    exact ⟨_, vs.length, rfl, .inl ⟨vs, SqL.of h1, rfl⟩, k _ _ F H o .refl (by rw [r1.len]; exact .int _) q⟩
  | .tuple xs, q =>
    obtain ⟨a, vs, rfl, h1, r1⟩ := bv.tup o
    exact ⟨_, vs.length, rfl, .inr ⟨vs, h1, rfl⟩, k _ _ F H o .refl (by rw [r1.len]; exact .int _) q⟩
/-- list(x) of a list or tuple -/
def pListL : PyData → (List PyData → Prop) → Prop
  | .list xs, P => P xs
  | .tuple xs, P => P xs
  | _, _ => False
/-- int(b), int(i) -/
def pInt : P1
  | .int i, P => P (.int i)
  | .bool c, P => P (.int (if c then 1 else 0))
  | _, _ => False
theorem c_int {X : Cx} : Cl1 X.K (fun xs H Q => (∃ i, xs = [.int i] ∧ Q (.int i) H) ∨ ∃ k, xs = [.bl k] ∧ Q (.int (if k then 1 else 0)) H) pInt := by
  intro pn b F H v x P Q o bv q k
  match x, q with
  | .int i, q => exact .inl ⟨i, by rw [bv.int], k _ _ F H o .refl (.int _) q⟩
  | .bool c, q => exact .inr ⟨c, by rw [bv.bool], k _ _ F H o .refl (.int _) q⟩
/-- all(..), any(..) of a list of bools -/
def boolsOf : List PyData → Option (List Bool)
  | [] => some []
  | .bool c :: r => (boolsOf r).map (c :: ·)
  | _ :: _ => none
theorem RVs.bools {K : PySem.W.Frag} {F : Hp} : ∀ {vs : List V} {ds : List PyData} {bs : List Bool}, RVs K F vs ds → boolsOf ds = some bs → vs = bs.map V.bl
  | _, _, _, .nil, h => by simp [boolsOf] at h; subst h; rfl
  | _, _, bs, .cons (d := d) r t, h => by
    cases r with
    | bl c =>
      simp only [boolsOf, Option.map_eq_some_iff] at h
      obtain ⟨cs, h1, rfl⟩ := h
      rw [t.bools h1]; rfl
    | _ => simp [boolsOf] at h
def pAll : P1
  | .list xs, P => match boolsOf xs with | some bs => P (.bool (bs.all id)) | none => False
  | _, _ => False
def pAny : P1
  | .list xs, P => match boolsOf xs with | some bs => P (.bool (bs.any id)) | none => False
  | _, _ => False
theorem c_all {X : Cx} : Cl1 X.K (rAll X.K) pAll := by
  intro pn b F H v x P Q o bv q k
  match x, q with
  | .list xs, q =>
    obtain ⟨a, vs, rfl, h1, r1⟩ := bv.list o
    cases e : boolsOf xs with
    | none => simp only [pAll, e] at q
    | some bs =>
      simp only [pAll, e] at q
      have e2 := r1.bools e
      subst e2
      exact ⟨a, bs, rfl, SqL.of h1, k _ _ F H o .refl (.bl _) q⟩
def pTru : PyData → (Bool → Prop) → Prop
  | .none, P => P false
  | .bool c, P => P c
  | .int i, P => P (i != 0)
  | .str z, P => z.length ≤ sizeLine ∧ P ((z.length : Int) != 0)
  | .list xs, P => P (!xs.isEmpty)
  | .tuple xs, P => P (!xs.isEmpty)
  | .dict kvs, P => P (!kvs.isEmpty)
theorem isE {K : PySem.W.Frag} {F : Hp} {vs : List V} {ds : List PyData} (r : RVs K F vs ds) : (!vs.isEmpty) = !ds.isEmpty := by cases r <;> rfl
theorem tru {K : PySem.W.Frag} {pn : Pn} {b : Nat} {F H : Hp} {v : V} {x : PyData} (o : Ok pn b F H) (bv : BV K pn F H v x) {P : Bool → Prop} (q : pTru x P) : ∃ k, TruV K v H k ∧ P k := by
  match x, q with
  | .none, q => have e := bv.none'; subst e; exact ⟨false, rfl, q⟩
  | .bool c, q => have e := bv.bool; subst e; exact ⟨c, rfl, q⟩
  | .int i, q => have e := bv.int; subst e; exact ⟨_, rfl, q⟩
  | .str z, ⟨h, q⟩ => have e := bv.str; subst e; exact ⟨_, ⟨h, rfl⟩, q⟩
  | .list xs, q =>
    obtain ⟨a, vs, rfl, h1, r1⟩ := bv.list o
    exact ⟨_, .inl ⟨vs, SqL.of h1, rfl⟩, by rw [isE r1]; exact q⟩
  | .tuple xs, q =>
    obtain ⟨a, vs, rfl, h1, r1⟩ := bv.tup o
    exact ⟨_, .inr (.inl ⟨vs, h1, rfl⟩), by rw [isE r1]; exact q⟩
  | .dict kvs, q =>
    rcases bv with bv | ⟨_, e, _⟩
    · cases bv with
      | dct h ek =>
        subst ek
        refine ⟨_, .inr (.inr ⟨_, o.sub _ _ h, rfl⟩), ?_⟩
        unfold pTru at q
        simpa using q
    · cases e
def wTru (t : WE) : WT := fun env b P => t env b fun x b1 => pTru x fun k => P k b1
def wAndT (t u : WT) : WT := fun env b P => t env b fun c b1 => if c = true then u env b1 P else P false b1
def wOrT (t u : WT) : WT := fun env b P => t env b fun c b1 => if c = true then P true b1 else u env b1 P
def wNotT (t : WT) : WT := fun env b P => t env b fun c b1 => P (!c) b1
def wIfE (c : WT) (t u : WE) : WE := fun env b P => c env b fun k b1 => if k = true then t env b1 P else u env b1 P
def wOrE (t u : WE) : WE := fun env b P => t env b fun x b1 => pTru x fun k => if k = true then P x b1 else u env b1 P
def wAndE (t u : WE) : WE := fun env b P => t env b fun x b1 => pTru x fun k => if k = true then u env b1 P else P x b1
def wNotE (t : WE) : WE := fun env b P => t env b fun x b1 => pTru x fun k => P (.bool (!k)) b1
section
variable {X : Cx} {a c e : Expr} {pos : Pos} {rest : List Expr} {ta tb : WE} {ua ub : WT}
theorem t_tru (ha : EB X a ta) (he : ∀ whole, isTrue a X.env whole = (do let v ← whole; standAt a.pos; holding [v] (truthy v))) : ET X a (wTru ta) := PT.imp (pt_truth ha he) fun σ H Q ⟨pn, F, env, b, P, rep, t, k⟩ =>
  ⟨pn, F, env, b, _, rep, t, fun v x F1 H1 b1 o1 e1 bv t1 => let ⟨c, h1, h2⟩ := tru o1 bv t1; ⟨c, h1, k c F1 H1 b1 o1 e1 h2⟩⟩
theorem PW.imp {t u : TT} (h : PW X e t) (i : ∀ σ H Q, u σ H Q → t σ H Q) : PW X e u := ⟨fun wh pins s σ H Q I q => h.run wh pins s σ H Q I (i _ _ _ q)⟩
theorem tw_and (ha : ET X a ua) (hb : PW X (.BoolOp .And (c :: rest) pos) (lT X.K ub)) : PW X (.BoolOp .And (a :: c :: rest) pos) (lT X.K (wAndT ua ub)) := PW.imp (pw_and ha hb) fun σ H Q ⟨pn, F, env, b, P, rep, t, k⟩ => by
  refine ⟨pn, F, env, b, _, rep, t, fun kc F1 H1 b1 o1 e1 t1 => ?_⟩
  cases kc with
  | true => exact ⟨pn, F1, env, b1, _, rep.ext o1 e1, t1, fun k' F2 H2 b2 o2 e2 q => k k' F2 H2 b2 o2 (e1.trans e2) q⟩
  | false => exact k false F1 H1 b1 o1 e1 t1
theorem tw_or (ha : ET X a ua) (hb : PW X (.BoolOp .Or (c :: rest) pos) (lT X.K ub)) : PW X (.BoolOp .Or (a :: c :: rest) pos) (lT X.K (wOrT ua ub)) := PW.imp (pw_or ha hb) fun σ H Q ⟨pn, F, env, b, P, rep, t, k⟩ => by
  refine ⟨pn, F, env, b, _, rep, t, fun kc F1 H1 b1 o1 e1 t1 => ?_⟩
  cases kc with
  | false => exact ⟨pn, F1, env, b1, _, rep.ext o1 e1, t1, fun k' F2 H2 b2 o2 e2 q => k k' F2 H2 b2 o2 (e1.trans e2) q⟩
  | true => exact k true F1 H1 b1 o1 e1 t1
theorem t_not (ha : ET X a ua) : ET X (.UnaryOp .Not a pos) (wNotT ua) := PT.imp (pt_not ha) fun σ H Q ⟨pn, F, env, b, P, rep, t, k⟩ =>
  ⟨pn, F, env, b, _, rep, t, fun kc F1 H1 b1 o1 e1 t1 => k _ F1 H1 b1 o1 e1 t1⟩
theorem e_if (hc : ET X c ua) (ha : EE X a ta) (hb : EE X e tb) : EE X (.IfExp c a e pos) (wIfE ua ta tb) := PE.imp (pe_ifExp hc ha hb) fun σ H Q ⟨pn, F, env, b, P, rep, t, k⟩ => by
  refine ⟨pn, F, env, b, _, rep, t, fun kc F1 H1 b1 o1 e1 t1 => ?_⟩
  cases kc with
  | true => exact ⟨pn, F1, env, b1, _, rep.ext o1 e1, t1, fun v d F2 H2 b2 o2 e2 rv q => k v d F2 H2 b2 o2 (e1.trans e2) rv q⟩
  | false => exact ⟨pn, F1, env, b1, _, rep.ext o1 e1, t1, fun v d F2 H2 b2 o2 e2 rv q => k v d F2 H2 b2 o2 (e1.trans e2) rv q⟩
theorem e_or (ha : EE X a ta) (hb : EE X (.BoolOp .Or (c :: rest) pos) tb) : EE X (.BoolOp .Or (a :: c :: rest) pos) (wOrE ta tb) := PE.imp (pe_orT ha hb) fun σ H Q ⟨pn, F, env, b, P, rep, t, k⟩ => by
  refine ⟨pn, F, env, b, _, rep, t, fun v x F1 H1 b1 o1 e1 rv t1 => ?_⟩
  obtain ⟨kc, h1, h2⟩ := tru o1 (.inl rv) t1
  refine ⟨kc, h1, ?_⟩
  cases kc with
  | true => exact k v x F1 H1 b1 o1 e1 rv h2
  | false => exact ⟨pn, F1, env, b1, _, rep.ext o1 e1, h2, fun v d F2 H2 b2 o2 e2 rv q => k v d F2 H2 b2 o2 (e1.trans e2) rv q⟩
theorem e_and (ha : EE X a ta) (hb : EE X (.BoolOp .And (c :: rest) pos) tb) : EE X (.BoolOp .And (a :: c :: rest) pos) (wAndE ta tb) := PE.imp (pe_andT ha hb) fun σ H Q ⟨pn, F, env, b, P, rep, t, k⟩ => by
  refine ⟨pn, F, env, b, _, rep, t, fun v x F1 H1 b1 o1 e1 rv t1 => ?_⟩
  obtain ⟨kc, h1, h2⟩ := tru o1 (.inl rv) t1
  refine ⟨kc, h1, ?_⟩
  cases kc with
  | false => exact k v x F1 H1 b1 o1 e1 rv h2
  | true => exact ⟨pn, F1, env, b1, _, rep.ext o1 e1, h2, fun v d F2 H2 b2 o2 e2 rv q => k v d F2 H2 b2 o2 (e1.trans e2) rv q⟩
theorem e_not (ha : EB X a ta) : EE X (.UnaryOp .Not a pos) (wNotE ta) := PE.imp (pe_notT ha) fun σ H Q ⟨pn, F, env, b, P, rep, t, k⟩ =>
  ⟨pn, F, env, b, _, rep, t, fun v x F1 H1 b1 o1 e1 bv t1 => let ⟨c, h1, h2⟩ := tru o1 bv t1; ⟨c, h1, k _ _ F1 H1 b1 o1 e1 (.bl _) h2⟩⟩
end
def wC (d : PyData) : WE := fun _ b P => P d b
def wVar (i : Nat) : WE := fun env b P => match env[i]? with
  | some (some (.d x)) => P x b
  | some (some (.l xs)) => P (.list xs) b
  | some (some (.r xs)) => P (.list xs) b
  | _ => False
def wVal (i : Nat) : WE := fun env b P => match env[i]? with
  | some (some (.d x)) => P x b
  | _ => False
section
variable {X : Cx} {i : Nat} {x : Str} {pos : Pos}
theorem b_var (h : PE X (.Name x pos) (tVar i)) : EB X (.Name x pos) (wVar i) := PE.imp h fun σ H Q ⟨pn, F, env, b, P, rep, t, k⟩ => by
  unfold wVar at t
  split at t
  · rename_i y h
    obtain ⟨v, h1, h2⟩ := rep.slot i _ h
    exact ⟨v, h1, k v y F H b rep.ok .refl (.inl h2) t⟩
  · rename_i y h
    obtain ⟨v, h1, h2⟩ := rep.slot i _ h
    exact ⟨v, h1, k v _ F H b rep.ok .refl (.inr ⟨_, rfl, h2⟩) t⟩
  · rename_i y h
    obtain ⟨v, h1, h2⟩ := rep.slot i _ h
    exact ⟨v, h1, k v _ F H b rep.ok .refl (.inr ⟨_, rfl, h2⟩) t⟩
  · exact t.elim
theorem e_var (h : PE X (.Name x pos) (tVar i)) : EE X (.Name x pos) (wVal i) := PE.imp h fun σ H Q ⟨pn, F, env, b, P, rep, t, k⟩ => by
  unfold wVal at t
  split at t
  · rename_i y h
    obtain ⟨v, h1, h2⟩ := rep.slot i _ h
    exact ⟨v, h1, k v y F H b rep.ok .refl h2 t⟩
  · exact t.elim
theorem e_c {e : Expr} {v : V} {d : PyData} (h : PE X e (tC v)) (r : ∀ F, RV X.K F v d) : EE X e (wC d) := PE.imp h fun σ H Q ⟨pn, F, env, b, P, rep, t, k⟩ => k v d F H b rep.ok .refl (r F) t
theorem e_int {n : Int} {j : Nat} : EE X (.Constant (.int n) j pos) (wC (.int n)) := e_c pe_int fun _ => .int n
theorem e_bl {n : Bool} {j : Nat} : EE X (.Constant (.bool n) j pos) (wC (.bool n)) := e_c pe_bl fun _ => .bl n
theorem e_str {n : Str} {j : Nat} : EE X (.Constant (.str n) j pos) (wC (.str n)) := e_c pe_str fun _ => .str n
theorem e_non {j : Nat} : EE X (.Constant .none j pos) (wC .none) := e_c pe_non fun _ => .non
def wNeg (ta : WE) : WE := fun env b P => ta env b fun x b1 => match x with | .int i => P (.int (-i)) b1 | _ => False
theorem e_neg {e : Expr} {ta : WE} (ha : EB X e ta) : EE X (.UnaryOp .USub e pos) (wNeg ta) := PE.imp (pe_un un_neg ha) fun σ H Q ⟨pn, F, env, b, P, rep, t, k⟩ => by
  refine ⟨pn, F, env, b, _, rep, t, fun v x F1 H1 b1 o1 e1 bv t1 => ?_⟩
  match x, t1 with
  | .int i, t1 => exact ⟨i, bv.int, k _ _ F1 H1 b1 o1 e1 (.int _) t1⟩
end
abbrev WL := En → Nat → (List PyData → Nat → Prop) → Prop
def lD (K : PySem.W.Frag) (t : WL) : TA := fun σ H Q => ∃ pn F env b P, Rep K pn F H σ env b ∧ t env b P ∧
  ∀ vs ds F' H' b', Ok pn b' F' H' → Ext pn F H F' H' → RVs K F' vs ds → P ds b' → Q vs H'
abbrev ED (X : Cx) (es : List Expr) (t : WL) : Prop := PA X es (lD X.K t)
def wNil : WL := fun _ b P => P [] b
def wCons (t : WE) (u : WL) : WL := fun env b P => t env b fun x b1 => u env b1 fun xs b2 => P (x :: xs) b2
section
variable {X : Cx} {e : Expr} {es : List Expr} {pos : Pos} {te : WE} {t : WL}
theorem d_nil : ED X [] wNil := PA.imp pa_nil fun σ H Q ⟨pn, F, env, b, P, rep, t, k⟩ => k [] [] F H b rep.ok .refl .nil t
theorem d_cons (ha : EE X e te) (hr : ED X es t) (hs : starEach (e :: es) X.env = (false, eval e X.env) :: starEach es X.env := by rfl) : ED X (e :: es) (wCons te t) := PA.imp (pa_cons ha hr hs) fun σ H Q ⟨pn, F, env, b, P, rep, t, k⟩ =>
  ⟨pn, F, env, b, _, rep, t, fun v x F1 H1 b1 o1 e1 rv t1 => ⟨pn, F1, env, b1, _, rep.ext o1 e1, t1, fun vs ds F2 H2 b2 o2 e2 rvs q => k _ _ F2 H2 b2 o2 (e1.trans e2) (.cons (rv.mono e2.fsub) rvs) q⟩⟩
def wTup (t : WL) : WE := fun env b P => t env b fun xs b1 => xs.length ≤ sizeLine ∧ P (.tuple xs) b1
def wLst (t : WL) : WF := fun env b P => t env b fun xs b1 => xs.length ≤ sizeLine ∧ P xs b1
theorem e_tup {x1 : Nat} (h : ED X es t) : EE X (.Tuple es x1 pos) (wTup t) := PE.imp (pe_tupP h) fun σ H Q ⟨pn, F, env, b, P, rep, t, k⟩ =>
  ⟨pn, F, env, b, _, rep, t, fun vs ds F1 H1 b1 o1 e1 rvs ⟨z, q⟩ => ⟨by rw [rvs.len]; exact z, Go.tup (P := fun d => P d b1) (fun w z F' H' o2 e2 rv q => k w z F' H' b1 o2 (e1.trans e2) rv q) o1 rvs q⟩⟩
theorem f_lst (h : ED X es t) : EF X (.List es pos) (wLst t) := PE.imp (pe_lst h) fun σ H Q ⟨pn, F, env, b, P, rep, t, k⟩ =>
  ⟨pn, F, env, b, _, rep, t, fun vs ds F1 H1 b1 o1 e1 rvs ⟨z, q⟩ => ⟨by rw [rvs.len]; exact z, GoL.lst (P := fun d => P d b1) (fun w z F' H' o2 e2 rv nw q => k w z F' H' b1 o2 (e1.trans e2) rv (fun a e => e1.back rep.ok o1 (nw a e)) q) o1 rvs q⟩⟩
end
end Pu
namespace Pu
open PySem PySem.Spec PyProof.Rows L2
def tyD : PyData → String
  | .none => "NoneType"
  | .bool _ => "bool"
  | .int _ => "int"
  | .str _ => "str"
  | .list _ => "list"
  | .tuple _ => "tuple"
  | .dict _ => "dict"
def isiD (T : String) (d : PyData) : Bool := tyD d == T || (T == "int" && tyD d == "bool")
theorem BV.ty {K : PySem.W.Frag} {pn : Pn} {b : Nat} {F H : Hp} {v : V} {x : PyData} (o : Ok pn b F H) (bv : BV K pn F H v x) : TyX K H v (.type (tyD x)) := by
  rcases bv with bv | ⟨xs, rfl, a, vs, rfl, _, _, _, h, _⟩
  · cases bv with
    | non => exact .base .non
    | bl c => exact .base (.bl c)
    | int i => exact .base (.int i)
    | str i => exact .base (.str i)
    | lst h _ => exact .base (.lst (o.sub _ _ h))
    | dct h _ => exact .base (.dK (o.sub _ _ h))
    | tup h _ =>
      rcases h with ⟨ob, h, _⟩ | ⟨ob, _, _, hk, hc, _⟩
      · exact .fTuple (o.sub _ _ h)
      · exact .kTuple hk hc
  · exact .base (.lst h)
/-- the answers for the classes that are written -/
def KitT (T : String) : Prop := ∀ d : PyData, kitB (tyD d) T = some (isiD T d)
theorem kit_all (T : String) (h : (["NoneType", "bool", "int", "str", "list", "tuple", "dict"].all fun s => decide (kitB s T = some (s == T || (T == "int" && s == "bool")))) = true) : KitT T := fun d => by
  have h' := List.all_eq_true.mp h
  have : tyD d ∈ ["NoneType", "bool", "int", "str", "list", "tuple", "dict"] := by cases d <;> simp [tyD]
  exact of_decide_eq_true (h' _ this)
theorem kit_int : KitT "int" := kit_all _ (by decide +kernel)
theorem kit_str : KitT "str" := kit_all _ (by decide +kernel)
theorem kit_bool : KitT "bool" := kit_all _ (by decide +kernel)
theorem kit_tuple : KitT "tuple" := kit_all _ (by decide +kernel)
theorem kit_list : KitT "list" := kit_all _ (by decide +kernel)
def pIsi (Ts : List String) : P1 := fun d P => P (.bool (Ts.any fun T => isiD T d))
section
variable {X : Cx} {e ec : Expr} {ta : WE} {x T : Str} {p pos tpos : Pos}
theorem e_isi {T : String} (kt : KitT T) (hg : Gl X "isinstance") (hm : X.mg "isinstance" = none) (ha : EB X e ta) (hc : PE X ec (tC (.ty T)))
    (he : starEach [e, ec] X.env = (false, eval e X.env) :: starEach [ec] X.env := by rfl) (he2 : starEach [ec] X.env = (false, eval ec X.env) :: starEach [] X.env := by rfl) (hpl : (backTo pos (starEach [ec] X.env)).any (·.1) = false := by rfl) :
    EE X (.Call (.Name "isinstance" p) [e, ec] [] pos) (w1 (pIsi [T]) ta) :=
  PE.imp (pe_callB call_isi hg hm (by decide +kernel) (pa_cons ha (pa_cons hc pa_nil he2) he) (by decide) (by decide) he hpl) fun σ H Q ⟨pn, F, env, b, P, rep, t, k⟩ =>
    ⟨pn, F, env, b, _, rep, t, fun v d F1 H1 b1 o1 e1 bv t1 => ⟨v, _, _, _, isiD T d, rfl, .ty T, bv.ty o1, kit_ty (kt d), k _ _ F1 H1 b1 o1 e1 (.bl _) (by simpa [pIsi] using t1)⟩⟩
/-- the classes of a written tuple -/
inductive Tys (X : Cx) : List Expr → List String → TA → Prop
  | nil : Tys X [] [] tNil
  | cons {e : Expr} {es : List Expr} {T : String} {Ts : List String} {t : TA} : KitT T → PE X e (tC (.ty T)) → starEach (e :: es) X.env = (false, eval e X.env) :: starEach es X.env → Tys X es Ts t → Tys X (e :: es) (T :: Ts) (tCons (tC (.ty T)) t)
theorem Tys.pa {es : List Expr} {Ts : List String} {t : TA} (h : Tys X es Ts t) : PA X es t := by
  induction h with
  | nil => exact pa_nil
  | cons _ h1 h2 _ ih => exact pa_cons h1 ih h2
theorem Tys.run {es : List Expr} {Ts : List String} {t : TA} (h : Tys X es Ts t) {σ : L2.St} {H : Hp} {Q : List V → Hp → Prop} (q : Q (Ts.map V.ty) H) : t σ H Q := by
  induction h generalizing Q with
  | nil => exact q
  | cons _ _ _ _ ih => exact ih q
theorem Tys.kit {es : List Expr} {Ts : List String} {t : TA} {K : PySem.W.Frag} (h : Tys X es Ts t) (d : PyData) : PySem.W.kitAny K (.type (tyD d)) (Ts.map Value.type) = some (Ts.any fun T => isiD T d) := by
  induction h with
  | nil => exact kitAny_nil
  | @cons e es T Ts t kt _ _ _ ih =>
    refine kitAny_cons (kit_ty (kt d)) (fun z => ?_) (fun z => ?_)
    · rw [ih, List.any_cons, z, Bool.false_or]
    · rw [List.any_cons, z, Bool.true_or]
theorem Tys.cls : ∀ Ts : List String, Paired ClsV (Ts.map V.ty) (Ts.map Value.type)
  | [] => .nil
  | T :: r => .cons (.ty T) (Tys.cls r)
theorem e_isiT {es : List Expr} {Ts : List String} {t : TA} {x1 : Nat} (ty : Tys X es Ts t) (hl : Ts.length ≤ sizeLine) (hg : Gl X "isinstance") (hm : X.mg "isinstance" = none) (ha : EB X e ta)
    (he : starEach [e, .Tuple es x1 tpos] X.env = (false, eval e X.env) :: starEach [.Tuple es x1 tpos] X.env := by rfl) (he2 : starEach [.Tuple es x1 tpos] X.env = (false, eval (.Tuple es x1 tpos) X.env) :: starEach [] X.env := by rfl) (hpl : (backTo pos (starEach [.Tuple es x1 tpos] X.env)).any (·.1) = false := by rfl) :
    EE X (.Call (.Name "isinstance" p) [e, .Tuple es x1 tpos] [] pos) (w1 (pIsi Ts) ta) :=
  PE.imp (pe_callB call_isiT hg hm (by decide +kernel) (pa_cons ha (pa_cons (pe_tup ty.pa) pa_nil he2) he) (by decide) (by decide) he hpl) fun σ H Q ⟨pn, F, env, b, P, rep, w, k⟩ => by
    refine ⟨pn, F, env, b, _, rep, w, fun v d F1 H1 b1 o1 e1 bv t1 => ?_⟩
    refine ty.run ⟨by simpa using hl, fun q hq => ?_⟩
    have bv2 := bv.ext (Ext.own (pn := pn) (F := F1) (o := .tup (Ts.map V.ty)) hq)
    exact ⟨v, q, Ts.map V.ty, _, Ts.map Value.type, _, rfl, upd_same, Tys.cls Ts, bv2.ty (o1.own hq), ty.kit d, k _ _ F1 _ b1 (o1.own hq) (e1.trans (.own hq)) (.bl _) t1⟩
end
abbrev WO := En → Nat → (Option Int → Nat → Prop) → Prop
def lO (K : PySem.W.Frag) (t : WO) : TO := fun σ H Q => ∃ pn F env b P, Rep K pn F H σ env b ∧ t env b P ∧
  ∀ o F' H' b', Ok pn b' F' H' → Ext pn F H F' H' → P o b' → Q o H'
abbrev EO (X : Cx) (e : Option Expr) (t : WO) : Prop := PO X e (lO X.K t)
theorem PO.imp {X : Cx} {e : Option Expr} {t u : TO} (h : PO X e t) (i : ∀ σ H Q, u σ H Q → t σ H Q) : PO X e u := ⟨fun pins s σ H Q I q => h.run pins s σ H Q I (i _ _ _ q)⟩
def wNoPart : WO := fun _ b P => P none b
def wPart (t : WE) : WO := fun env b P => t env b fun x b1 => match x with | .int i => P (some i) b1 | _ => False
theorem o_none {X : Cx} : EO X none wNoPart := PO.imp po_none fun σ H Q ⟨pn, F, env, b, P, rep, t, k⟩ => k none F H b rep.ok .refl t
theorem o_some {X : Cx} {e : Expr} {t : WE} (h : EB X e t) : EO X (some e) (wPart t) := PO.imp (po_some h) fun σ H Q ⟨pn, F, env, b, P, rep, t, k⟩ => by
  refine ⟨pn, F, env, b, _, rep, t, fun v x F1 H1 b1 o1 e1 bv t1 => ?_⟩
  match x, t1 with
  | .int i, t1 => exact ⟨i, bv.int, k _ F1 H1 b1 o1 e1 t1⟩
def cutD (xs : List PyData) (lo hi : Option Int) : List PyData := (xs.drop (HT.sIx xs.length 0 lo)).take (HT.sIx xs.length xs.length hi - HT.sIx xs.length 0 lo)
def pSl (lo hi : Option Int) : P1
  | .str z, P => z.length ≤ sizeLine ∧ P (.str (cutS z lo hi))
  | .tuple xs, P => P (.tuple (cutD xs lo hi))
  | .list xs, P => P (.list (cutD xs lo hi))
  | _, _ => False
def wSl (t : WE) (l h : WO) : WE := fun env b P => t env b fun x b1 => l env b1 fun lo b2 => h env b2 fun hi b3 => pSl lo hi x fun z => P z b3
def wSlL (t : WE) (l h : WO) : WF := fun env b P => t env b fun x b1 => l env b1 fun lo b2 => h env b2 fun hi b3 => match x with | .list xs => P (cutD xs lo hi) b3 | _ => False
theorem RVs.cut {K : PySem.W.Frag} {F : Hp} {vs : List V} {ds : List PyData} (r : RVs K F vs ds) (lo hi : Option Int) : RVs K F (cutV vs lo hi) (cutD ds lo hi) := by
  unfold cutV cutD
  rw [r.len]
  exact (r.drop' _).take' _
theorem cutV_whole {xs : List V} {lo hi : Option Int} (h : HT.sIx xs.length 0 lo = 0 ∧ HT.sIx xs.length xs.length hi = xs.length) : cutV xs lo hi = xs := by
  unfold cutV; rw [h.1, h.2]; simp
section
variable {X : Cx} {e : Expr} {te : WE} {lo hi : Option Expr} {tl th : WO} {pos p2 : Pos}
theorem e_sl (he : EB X e te) (hl : EO X lo tl) (hu : EO X hi th) : EE X (.Subscript e (.Slice lo hi none p2) pos) (wSl te tl th) :=
  PE.imp (pe_slice (SlR.or sl_str (SlR.or sl_tupP sl_list)) he hl hu) fun σ H Q ⟨pn, F, env, b, P, rep, t, k⟩ => by
    refine ⟨pn, F, env, b, _, rep, t, fun v x F1 H1 b1 o1 e1 bv t1 => ?_⟩
    refine ⟨pn, F1, env, b1, _, rep.ext o1 e1, t1, fun l F2 H2 b2 o2 e2 t2 => ?_⟩
    refine ⟨pn, F2, env, b2, _, (rep.ext o1 e1).ext o2 e2, t2, fun u F3 H3 b3 o3 e3 t3 => ?_⟩
    have bv3 := (bv.ext e2).ext e3
    have k3 : Go X.K pn b3 F3 H3 (fun z => P z b3) Q := fun w z F' H' o4 e4 rv q => k w z F' H' b3 o4 (e1.trans (e2.trans (e3.trans e4))) rv q
    match x, t3 with
    | .str z, ⟨hz, q⟩ => exact .inl ⟨z, bv3.str, hz, k3 _ _ F3 H3 o3 .refl (.str _) q⟩
    | .tuple xs, q =>
      rcases bv3 with bv3 | ⟨_, e, _⟩
      · cases bv3 with
        | tup h r =>
          refine .inr (.inl ⟨_, _, rfl, Same.tup o3.sub h.sq, fun z => ?_, fun z => k3.tup o3 (r.cut l u) q⟩)
          have := r.cut l u
          rw [cutV_whole z] at this
          exact k3 _ _ F3 H3 o3 .refl (.tup h this) q
      · cases e
    | .list xs, q =>
      obtain ⟨a, vs, rfl, h1, r1⟩ := bv3.list o3
      exact .inr (.inr ⟨a, vs, rfl, SqL.of h1, k3.lst o3 (r1.cut l u) q⟩)
theorem RVs.rev {K : PySem.W.Frag} {F : Hp} : ∀ {vs : List V} {ds : List PyData}, RVs K F vs ds → RVs K F vs.reverse ds.reverse
  | _, _, .nil => .nil
  | _, _, .cons r t => by rw [List.reverse_cons, List.reverse_cons]; exact (RVs.rev t).app (.one r)
end
def strsOf : List PyData → Option (List Str)
  | [] => some []
  | .str c :: r => (strsOf r).map (c :: ·)
  | _ :: _ => none
theorem RVs.strs {K : PySem.W.Frag} {F : Hp} : ∀ {vs : List V} {ds : List PyData} {bs : List Str}, RVs K F vs ds → strsOf ds = some bs → vs = bs.map V.str
  | _, _, _, .nil, h => by simp [strsOf] at h; subst h; rfl
  | _, _, bs, .cons (d := d) r t, h => by
    cases r with
    | str c =>
      simp only [strsOf, Option.map_eq_some_iff] at h
      obtain ⟨cs, h1, rfl⟩ := h
      rw [t.strs h1]; rfl
    | _ => simp [strsOf] at h
abbrev PS2 := Str → PyData → (PyData → Prop) → Prop
/-- sep.join(list of texts) -/
def pJoin : PS2
  | a, .list xs, P => match strsOf xs with | some ys => (ys.map (·.length)).sum + ys.length * a.length ≤ 16777216 ∧ P (.str (Txt.join a ys)) | none => False
  | _, _, _ => False
/-- s.index(t) -/
def pIndex : PS2
  | a, .str c, P => match Builtin.Str.occurrences a c 0 a.length 1 with | i :: _ => P (.int (i : Nat)) | [] => False
  | _, _, _ => False
/-- a method of a text with one argument -/
def wMS (p : PS2) (ta tb : WE) : WE := fun env b P => ta env b fun x b1 => match x with
  | .str a => tb env b1 fun y b2 => p a y fun z => P z b2
  | _ => False
def MsR (K : PySem.W.Frag) (r : V → List V → Hp → VK → Prop) (p : PS2) : Prop :=
  ∀ (pn : Pn) (b : Nat) (F H : Hp) (a : Str) (u : V) (y : PyData) (P : PyData → Prop) (Q : VK), Ok pn b F H → BV K pn F H u y → p a y P → Go K pn b F H P Q → r (.str a) [u] H Q
section
variable {X : Cx} {o e : Expr} {ta tb : WE} {apos pos : Pos}
theorem ms_run {r : V → List V → Hp → VK → Prop} {p : PS2} (m : MsR X.K r p) {σ : L2.St} {H : Hp} {Q : VK} (h : lE X.K (wMS p ta tb) σ H Q) : tM1 r (lB X.K ta) (lB X.K tb) σ H Q := by
  obtain ⟨pn, F, env, b, P, rep, t, k⟩ := h
  refine ⟨pn, F, env, b, _, rep, t, fun v x F1 H1 b1 o1 e1 bv t1 => ?_⟩
  cases x with
  | str a =>
    have e := bv.str
    subst e
    exact ⟨⟨a, rfl⟩, pn, F1, env, b1, _, rep.ext o1 e1, t1, fun u y F2 H2 b2 o2 e2 bu t2 => m pn b2 F2 H2 a u y _ Q o2 bu t2 fun w z F' H' o3 e3 rv q => k w z F' H' b2 o3 (e1.trans (e2.trans e3)) rv q⟩
  | _ => exact t1.elim
theorem m_join {K : PySem.W.Frag} : MsR K (fun x xs H Q => ∃ a p, ∃ ys : List Str, x = .str a ∧ xs = [.ref p] ∧ (SqL K H p (ys.map V.str) ∨ SqT K H p (ys.map V.str)) ∧ (ys.map (·.length)).sum + ys.length * a.length ≤ 16777216 ∧ Q (.str (Txt.join a ys)) H) pJoin := by
  intro pn b F H a u y P Q o bu q k
  match y, q with
  | .list xs, q =>
    obtain ⟨p, vs, rfl, h1, r1⟩ := bu.list o
    cases es : strsOf xs with
    | none => simp only [pJoin, es] at q
    | some ys =>
      simp only [pJoin, es] at q
      have e3 := r1.strs es
      subst e3
      exact ⟨a, p, ys, rfl, rfl, .inl (SqL.of h1), q.1, k _ _ F H o .refl (.str _) q.2⟩
theorem m_index {K : PySem.W.Frag} : MsR K (fun x xs H Q => ∃ a b i rest, x = .str a ∧ xs = [.str b] ∧ Builtin.Str.occurrences a b 0 a.length 1 = i :: rest ∧ Q (.int (i : Nat)) H) pIndex := by
  intro pn b F H a u y P Q o bu q k
  match y, q with
  | .str c, q =>
    cases h : Builtin.Str.occurrences a c 0 a.length 1 with
    | nil => simp only [pIndex, h] at q
    | cons i r =>
      simp only [pIndex, h] at q
      exact ⟨a, c, i, r, rfl, by rw [bu.str], h, k _ _ F H o .refl (.int _) q⟩
theorem e_join (ho : EB X o ta) (he : EB X e tb) (hs : starEach [e] X.env = [(false, eval e X.env)] := by rfl) (hbase : attributeBase o "join" X.env (eval o X.env) = eval o X.env := by rfl) (hline : (apos.endLine == pos.line) = true := by rfl) :
    EE X (.Call (.Attribute o "join" apos) [e] [] pos) (wMS pJoin ta tb) := PE.imp (pe_join ho he hs hbase hline) fun σ H Q h => ms_run m_join h
theorem e_index (ho : EB X o ta) (he : EB X e tb) (hs : starEach [e] X.env = [(false, eval e X.env)] := by rfl) (hbase : attributeBase o "index" X.env (eval o X.env) = eval o X.env := by rfl) (hline : (apos.endLine == pos.line) = true := by rfl) :
    EE X (.Call (.Attribute o "index" apos) [e] [] pos) (wMS pIndex ta tb) := PE.imp (pe_m1 F.slot_str_index F.type_str_index mt_sindex ho he hs hbase hline) fun σ H Q h => ms_run m_index h
end
def wANil : WA := fun _ b P => P [] b
def wACons (t : WE) (u : WA) : WA := fun env b P => t env b fun x b1 => u env b1 fun xs b2 => P (.d x :: xs) b2
/-- the pen, a list of one's own, handed on by name -/
def wAName (i : Nat) (u : WA) : WA := fun env b P => match env[i]? with
  | some (some .p) => u env b fun xs b2 => P (.p :: xs) b2
  | some (some (.d x)) => u env b fun xs b2 => P (.d x :: xs) b2
  | some (some (.l ys)) => u env b fun xs b2 => P (.r ys :: xs) b2
  | some (some (.r ys)) => u env b fun xs b2 => P (.r ys :: xs) b2
  | _ => False
def wCall (f : WD) (t : WA) : WE := fun env b P => t env b fun ss b1 => f ss b1 P
section
variable {X : Cx} {e : Expr} {es : List Expr} {te : WE} {t : WA} {i : Nat} {x : Str} {p pos : Pos} {f : Addr} {fd : FuncData} {ps : List Str} {k : Nat} {w : WD}
theorem a_nil : EA X [] wANil := PA.imp pa_nil fun σ H Q ⟨pn, F, env, b, P, rep, t, k⟩ => k [] [] F H b rep.ok .refl rep.tk t
theorem a_cons (ha : EE X e te) (hr : EA X es t) (hs : starEach (e :: es) X.env = (false, eval e X.env) :: starEach es X.env := by rfl) : EA X (e :: es) (wACons te t) := PA.imp (pa_cons ha hr hs) fun σ H Q ⟨pn, F, env, b, P, rep, t, k⟩ =>
  ⟨pn, F, env, b, _, rep, t, fun v x F1 H1 b1 o1 e1 rv t1 => ⟨pn, F1, env, b1, _, rep.ext o1 e1, t1, fun vs ss F2 H2 b2 o2 e2 ar q => k _ (.d x :: ss) F2 H2 b2 o2 (e1.trans e2) ⟨rv.mono e2.fsub, rfl, ar⟩ q⟩⟩
theorem a_name (ha : PE X (.Name x p) (tVar i)) (hr : EA X es t) (hs : starEach (.Name x p :: es) X.env = (false, eval (.Name x p) X.env) :: starEach es X.env := by rfl) : EA X (.Name x p :: es) (wAName i t) := PA.imp (pa_cons ha hr hs) fun σ H Q ⟨pn, F, env, b, P, rep, t, k⟩ => by
  unfold wAName at t
  split at t
  · rename_i h
    obtain ⟨v, h1, h2⟩ := rep.slot i _ h
    exact ⟨v, h1, pn, F, env, b, _, rep, t, fun vs ss F2 H2 b2 o2 e2 ar q => k _ (.p :: ss) F2 H2 b2 o2 e2 ⟨h2.ext e2, rfl, ar⟩ q⟩
  · rename_i y h
    obtain ⟨v, h1, h2⟩ := rep.slot i _ h
    exact ⟨v, h1, pn, F, env, b, _, rep, t, fun vs ss F2 H2 b2 o2 e2 ar q => k _ (.d y :: ss) F2 H2 b2 o2 e2 ⟨h2.ext e2, rfl, ar⟩ q⟩
  · rename_i ys h
    obtain ⟨v, h1, h2⟩ := rep.slot i _ h
    exact ⟨v, h1, pn, F, env, b, _, rep, t, fun vs ss F2 H2 b2 o2 e2 ar q => k _ (.r ys :: ss) F2 H2 b2 o2 e2 ⟨SlIs.ext (s := .r ys) h2 e2, rfl, ar⟩ q⟩
  · rename_i ys h
    obtain ⟨v, h1, h2⟩ := rep.slot i _ h
    exact ⟨v, h1, pn, F, env, b, _, rep, t, fun vs ss F2 H2 b2 o2 e2 ar q => k _ (.r ys :: ss) F2 H2 b2 o2 e2 ⟨h2.ext e2, rfl, ar⟩ q⟩
  · exact t.elim
theorem e_call (G : FnOk X.prog X.w X.K X.mg X.base CX0 k f fd ps (spW X.K w)) (hr : Room k X.A) (hg : Gl X x) (hm : X.mg x = some (.ref f)) (hk : PySem.W.keepIn X.K (.ref f) = true) (hb : Binds X.K fd ps []) (ha : EA X (e :: es) t) (hdb : (x == ("__debug__" : Str)) = false := by decide)
    (he : starEach (e :: es) X.env = (false, eval e X.env) :: starEach es X.env := by rfl) (hpl : (backTo pos (starEach es X.env)).any (·.1) = false := by rfl) : EE X (.Call (.Name x p) (e :: es) [] pos) (wCall w t) :=
  PE.imp (pe_call G hr hg hm hk hb .nil pass0 ha hdb he hpl) fun σ H Q ⟨pn, F, env, b, P, rep, t, k⟩ =>
    ⟨pn, F, env, b, _, rep, t, fun vs ss F1 H1 b1 o1 e1 ar t1 => ⟨pn, F1, ss, b1, P, o1, by rw [List.append_nil]; exact ar, t1, fun v d F' H' b' o' e' rv q => k v d F' H' b' o' (e1.trans e') rv q⟩⟩
end
end Pu
namespace Pu
open PySem PySem.Spec PyProof.Rows L2
section
variable {K : PySem.W.Frag} {pn : Pn} {b b' : Nat} {F0 H0 F H F' H' : Hp} {σ : L2.St} {env : En} {i : Nat} {v : V}
theorem RepS.ext' (r : RepS K pn F0 H0 F H σ env b) (k : Ok pn b' F' H') (e : Ext pn F H F' H') : RepS K pn F0 H0 F' H' σ env b' := ⟨r.rep.ext k e, r.ext.trans e, r.own⟩
theorem Rep.setD (r : Rep K pn F H σ env b) {d : PyData} (rv : RV K F v d) : Rep K pn F H (σ.set i (some v)) (env.set i (some (.d d))) b := by
  refine ⟨r.ok, by simp [r.len], fun j s h => ?_, fun j k a xs ys n h1 h2 h3 => ?_, r.tk⟩
  · by_cases e : j = i
    · subst e
      have hl : j < env.length := by have := (List.getElem?_eq_some_iff.mp h).1; simpa using this
      rw [List.getElem?_set_self hl] at h
      cases h
      exact ⟨v, List.getElem?_set_self (by rw [r.len]; exact hl), rv⟩
    · rw [List.getElem?_set_ne (Ne.symm e)] at h
      rw [List.getElem?_set_ne (Ne.symm e)]
      exact r.slot j s h
  · have e1 : j ≠ i := fun e => by
      subst e
      have hl : j < env.length := by have := (List.getElem?_eq_some_iff.mp h1).1; simpa using this
      rw [List.getElem?_set_self hl] at h1
      cases h1
    have e2 : k ≠ i := fun e => by
      subst e
      rcases h2 with h2 | h2
      all_goals
        have hl : k < env.length := by have := (List.getElem?_eq_some_iff.mp h2).1; simpa using this
        rw [List.getElem?_set_self hl] at h2
        cases h2
    rw [List.getElem?_set_ne (Ne.symm e1)] at h1 h3
    rw [List.getElem?_set_ne (Ne.symm e2)] at h2 ⊢
    exact r.apart j k a xs ys n h1 h2 h3
theorem RepS.setD (r : RepS K pn F0 H0 F H σ env b) {d : PyData} (rv : RV K F v d) : RepS K pn F0 H0 F H (σ.set i (some v)) (env.set i (some (.d d))) b := by
  refine ⟨r.rep.setD rv, r.ext, fun j a xs hs h1 h2 => ?_⟩
  have e1 : j ≠ i := fun e => by
    subst e
    have hl : j < env.length := by have := (List.getElem?_eq_some_iff.mp h1).1; simpa using this
    rw [List.getElem?_set_self hl] at h1
    cases h1
    cases hs
  rw [List.getElem?_set_ne (Ne.symm e1)] at h1 h2
  exact r.own j a xs hs h1 h2
/-- a list just made goes to a name -/
theorem RepS.setL (r : RepS K pn F0 H0 F H σ env b) {d : List PyData} (ow : OwnL K pn F H v d)
    (new : ∀ a, v = .ref a → H0 a = none ∧ ∀ (j : Nat) (ys : List PyData), (env[j]? = some (some (Sl.l ys)) ∨ env[j]? = some (some (Sl.r ys))) → σ[j]? ≠ some (some (V.ref a))) :
    RepS K pn F0 H0 F H (σ.set i (some v)) (env.set i (some (.l d))) b := by
  have get1 : ∀ (j : Nat) (s : Sl), (env.set i (some (.l d)))[j]? = some (some s) → (j = i ∧ s = .l d ∧ j < σ.length) ∨ (j ≠ i ∧ env[j]? = some (some s)) := fun j s h => by
    by_cases e : j = i
    · subst e
      have hl : j < env.length := by have := (List.getElem?_eq_some_iff.mp h).1; simpa using this
      rw [List.getElem?_set_self hl] at h
      cases h
      exact .inl ⟨rfl, rfl, by rw [r.rep.len]; exact hl⟩
    · rw [List.getElem?_set_ne (Ne.symm e)] at h
      exact .inr ⟨e, h⟩
  have get2 : ∀ (j : Nat), j ≠ i → (σ.set i (some v))[j]? = σ[j]? := fun j e => List.getElem?_set_ne (Ne.symm e)
  have get3 : i < σ.length → (σ.set i (some v))[i]? = some (some v) := fun h => List.getElem?_set_self h
  refine ⟨⟨r.rep.ok, by simp [r.rep.len], fun j s h => ?_, fun j k a xs ys n h1 h2 h3 => ?_, r.rep.tk⟩, r.ext, fun j a xs hq h1 h2 => ?_⟩
  · rcases get1 j s h with ⟨rfl, rfl, hl⟩ | ⟨e, h⟩
    · exact ⟨v, get3 hl, ow⟩
    · rw [get2 j e]; exact r.rep.slot j s h
  · have h2' : ∃ s, (env.set i (some (.l d)))[k]? = some (some s) ∧ (s = .l ys ∨ s = .r ys) := by rcases h2 with h2 | h2 <;> exact ⟨_, h2, by simp⟩
    obtain ⟨s2, h2', hs2⟩ := h2'
    rcases get1 j _ h1 with ⟨rfl, _, hl⟩ | ⟨e, g1⟩
    · rw [get3 hl] at h3
      cases h3
      rcases get1 k _ h2' with ⟨rfl, _, _⟩ | ⟨e2, h2'⟩
      · exact (n rfl).elim
      · rw [get2 k e2]
        exact (new a rfl).2 k ys (by rcases hs2 with rfl | rfl <;> simp [h2'])
    · rw [get2 j e] at h3
      rcases get1 k _ h2' with ⟨rfl, _, hl⟩ | ⟨e2, h2'⟩
      · rw [get3 hl]
        intro z
        cases z
        exact (new a rfl).2 j xs (.inl g1) h3
      · rw [get2 k e2]
        exact r.rep.apart j k a xs ys n g1 (by rcases hs2 with rfl | rfl <;> simp [h2']) h3
  · rcases get1 j _ h1 with ⟨rfl, _, hl⟩ | ⟨e, h1⟩
    · rw [get3 hl] at h2
      cases h2
      exact (new a rfl).1
    · rw [get2 j e] at h2
      exact r.own j a xs hq h1 h2
/-- a list of one's own is written -/
theorem RepS.write (r : RepS K pn F0 H0 F H σ env b) {xs ys : List PyData} {a : Addr} {ws : List V} (h : env[i]? = some (some (Sl.l xs))) (hs : σ[i]? = some (some (V.ref a))) (rv : RVs K F ws ys) :
    RepS K pn F0 H0 F (upd H a (.lst ws)) σ (env.set i (some (.l ys))) b := by
  have il : i < env.length := (List.getElem?_eq_some_iff.mp h).1
  obtain ⟨v, hv, ow⟩ := r.rep.slot i _ h
  rw [hs] at hv
  cases hv
  obtain ⟨a', vs, e, fa, np, nc, ha, _⟩ := ow
  cases e
  have n0 : H0 a = none := r.own i a _ rfl h hs
  have far : ∀ (j : Nat) (zs : List PyData) (w : V), j ≠ i → (env[j]? = some (some (Sl.l zs)) ∨ env[j]? = some (some (Sl.r zs))) → σ[j]? = some (some w) → w ≠ .ref a := fun j zs w n hj hw e => by
    subst e
    exact r.rep.apart i j a xs zs (Ne.symm n) h hj hs hw
  have keepO : ∀ {w : V} {zs : List PyData}, w ≠ .ref a → OwnL K pn F H w zs → OwnL K pn F (upd H a (.lst ws)) w zs := fun n ⟨c, us, e, f, p, q, hc, rc⟩ => by
    subst e
    exact ⟨c, us, rfl, f, p, q, by rw [upd_ne (fun z => n (by rw [z]))]; exact hc, rc⟩
  have pen' : PenIs pn b F (upd H a (.lst ws)) := r.rep.ok.pen.wr np nc
  refine ⟨⟨⟨fun c o q => ?_, pen'⟩, by simp [r.rep.len], fun j s hj => ?_, fun j k c zs us n h1 h2 h3 => ?_, r.rep.tk⟩, ⟨r.ext.fsub, fun c o hc f p => ?_⟩, fun j c zs hq h1 h2 => ?_⟩
  · rw [upd_ne (fun z => by rw [z, fa] at q; cases q)]; exact r.rep.ok.sub c o q
  · by_cases e : j = i
    · subst e
      rw [List.getElem?_set_self il] at hj
      cases hj
      exact ⟨_, hs, a, ws, rfl, fa, np, nc, upd_same, rv⟩
    · rw [List.getElem?_set_ne (Ne.symm e)] at hj
      obtain ⟨w, hw, sl⟩ := r.rep.slot j s hj
      refine ⟨w, hw, ?_⟩
      match s, sl, hj with
      | .d x, sl, _ => exact sl
      | .l zs, sl, hj => exact keepO (far j zs w e (.inl hj) hw) sl
      | .r zs, sl, hj => exact keepO (far j zs w e (.inr hj) hw) sl
      | .p, sl, _ => exact sl
      | .k zs, ⟨c, us, e, f, p, q, hc, rc⟩, _ => exact ⟨c, us, e, f, p, q, by rw [upd_ne (fun z => by rw [z, ha] at hc; exact nomatch hc)]; exact hc, rc⟩
  · have old : ∀ (m : Nat) (s : Sl), (env.set i (some (.l ys)))[m]? = some (some s) → (∃ zs, s = .l zs ∨ s = .r zs) → ∃ zs, env[m]? = some (some (Sl.l zs)) ∧ s = .l zs ∨ (m = i ∧ s = .l ys) ∨ env[m]? = some (some (Sl.r zs)) ∧ s = .r zs := fun m s hm hz => by
      by_cases e : m = i
      · subst e
        rw [List.getElem?_set_self il] at hm
        cases hm
        exact ⟨[], .inr (.inl ⟨rfl, rfl⟩)⟩
      · rw [List.getElem?_set_ne (Ne.symm e)] at hm
        obtain ⟨zs, rfl | rfl⟩ := hz
        · exact ⟨zs, .inl ⟨hm, rfl⟩⟩
        · exact ⟨zs, .inr (.inr ⟨hm, rfl⟩)⟩
    have h1' : ∃ zs', env[j]? = some (some (Sl.l zs')) := by
      obtain ⟨z, ⟨q, _⟩ | ⟨q, _⟩ | ⟨_, q⟩⟩ := old j _ h1 ⟨zs, .inl rfl⟩
      · exact ⟨z, q⟩
      · exact ⟨xs, by rw [q]; exact h⟩
      · cases q
    have h2' : ∃ us', env[k]? = some (some (Sl.l us')) ∨ env[k]? = some (some (Sl.r us')) := by
      rcases h2 with h2 | h2
      · obtain ⟨z, ⟨q, _⟩ | ⟨q, _⟩ | ⟨q, _⟩⟩ := old k _ h2 ⟨us, .inl rfl⟩
        · exact ⟨z, .inl q⟩
        · exact ⟨xs, .inl (by rw [q]; exact h)⟩
        · exact ⟨z, .inr q⟩
      · obtain ⟨z, ⟨q, _⟩ | ⟨q, _⟩ | ⟨q, _⟩⟩ := old k _ h2 ⟨us, .inr rfl⟩
        · exact ⟨z, .inl q⟩
        · exact ⟨xs, .inl (by rw [q]; exact h)⟩
        · exact ⟨z, .inr q⟩
    obtain ⟨z1, h1'⟩ := h1'
    obtain ⟨z2, h2'⟩ := h2'
    exact r.rep.apart j k c z1 z2 n h1' h2' h3
  · obtain ⟨q1, q2⟩ := r.ext.keep c o hc f p
    exact ⟨by rw [upd_ne (fun z => by rw [z, n0] at hc; cases hc)]; exact q1, q2⟩
  · by_cases e : j = i
    · subst e
      rw [hs] at h2
      cases h2
      exact n0
    · rw [List.getElem?_set_ne (Ne.symm e)] at h1
      exact r.own j c zs hq h1 h2
end
end Pu
namespace Pu
open PySem PySem.Spec PyProof.Rows L2
inductive Tg where
  | nm (i : Nat)
  | tp (is : List Nat)
def gs : List Nat → TGs
  | [] => gNil
  | i :: r => gCons (gName i) (gs r)
def gT (K : PySem.W.Frag) : Tg → TG
  | .nm i => gName i
  | .tp is => gTup K is.length (gs is)
def setAll : List Nat → List PyData → En → En
  | i :: r, d :: ds, env => setAll r ds (env.set i (some (.d d)))
  | _, _, env => env
def setT : Tg → PyData → En → Option En
  | .nm i, d, env => some (env.set i (some (.d d)))
  | .tp is, .tuple ds, env => if ds.length = is.length then some (setAll is ds env) else none
  | _, _, _ => none
def vsAll : List Nat → List V → L2.St → L2.St
  | i :: r, v :: vs, σ => vsAll r vs (σ.set i (some v))
  | _, _, σ => σ
section
variable {K : PySem.W.Frag} {pn : Pn} {b : Nat} {F0 H0 F H : Hp}
theorem gs_run : ∀ (is : List Nat) {vs : List V} {ds : List PyData} {σ : L2.St} {Q : L2.St → Hp → Prop}, RVs K F vs ds → ds.length = is.length → Q (vsAll is vs σ) H → gs is vs σ H Q
  | [], _, _, _, _, .nil, _, q => ⟨rfl, q⟩
  | i :: r, _, _, _, _, .cons rv t, h, q => ⟨_, _, rfl, gs_run r t (by simpa using h) q⟩
  | [], _, _, _, _, .cons _ _, h, _ => by simp at h
  | _ :: _, _, _, _, _, .nil, h, _ => by simp at h
theorem set_run : ∀ (is : List Nat) {vs : List V} {ds : List PyData} {σ : L2.St} {env : En}, RVs K F vs ds → RepS K pn F0 H0 F H σ env b → RepS K pn F0 H0 F H (vsAll is vs σ) (setAll is ds env) b
  | [], _, _, _, _, _, r => by simpa [vsAll, setAll] using r
  | i :: is, _, _, _, _, .nil, r => by simpa [vsAll, setAll] using r
  | i :: is, _, _, _, _, .cons rv t, r => set_run is t (r.setD rv)
theorem set_runE : ∀ (is : List Nat) {vs : List V} {ds : List PyData} {σ : L2.St} {env : En}, RVs K F vs ds → Rep K pn F H σ env b → Rep K pn F H (vsAll is vs σ) (setAll is ds env) b
  | [], _, _, _, _, _, r => by simpa [vsAll, setAll] using r
  | i :: is, _, _, _, _, .nil, r => by simpa [vsAll, setAll] using r
  | i :: is, _, _, _, _, .cons rv t, r => set_runE is t (r.setD rv)
def sT : Tg → V → List V → L2.St → L2.St
  | .nm i, v, _, σ => σ.set i (some v)
  | .tp is, _, vs, σ => vsAll is vs σ
/-- an item that is walked over: a datum, or (w = false) a pair that is taken apart at once -/
def RVw (K : PySem.W.Frag) (w : Bool) (F H : Hp) (v : V) (d : PyData) : Prop := RV K F v d ∨ (w = false ∧ ∃ a vs ds, v = .ref a ∧ d = .tuple ds ∧ SqT K H a vs ∧ RVs K F vs ds)
theorem gT_run {g : Tg} {w : Bool} {v : V} {d : PyData} {σ : L2.St} {env env' : En} {Q : L2.St → Hp → Prop} (o : Ok pn b F H) (rv : RVw K w F H v d) (hw : w = true ∨ ∃ is, g = .tp is) (h : setT g d env = some env')
    (q : ∀ vs, (RepS K pn F0 H0 F H σ env b → RepS K pn F0 H0 F H (sT g v vs σ) env' b) → (Rep K pn F H σ env b → Rep K pn F H (sT g v vs σ) env' b) → Q (sT g v vs σ) H) : gT K g v σ H Q := by
  cases g with
  | nm i =>
    cases h
    rcases rv with rv | ⟨e, _⟩
    · exact q [] (fun r => r.setD rv) (fun r => r.setD rv)
    · subst e
      rcases hw with e | ⟨_, e⟩ <;> cases e
  | tp is =>
    have two : ∀ a xs ds, v = .ref a → d = .tuple ds → SqT K H a xs → RVs K F xs ds → gT K (.tp is) v σ H Q := fun a xs ds e1 e2 hq r => by
      subst e1 e2
      by_cases hl : ds.length = is.length
      · have h2 : some (setAll is ds env) = some env' := by
          have : setT (.tp is) (.tuple ds) env = some (setAll is ds env) := if_pos hl
          rw [← this]; exact h
        cases h2
        exact ⟨_, _, rfl, hq, by rw [r.len]; exact hl, gs_run is r hl (q _ (fun z => set_run is r z) (fun z => set_runE is r z))⟩
      · have : setT (.tp is) (.tuple ds) env = none := if_neg hl
        rw [this] at h
        cases h
    rcases rv with rv | ⟨_, a, xs, ds, e1, e2, hq, r⟩
    · cases rv with
      | @tup a xs ds hq r => exact two a xs ds rfl rfl (Same.tup o.sub hq.sq) r
      | _ => cases h
    · exact two a xs ds e1 e2 hq r
end
section
variable {X : Cx} {pos : Pos}
abbrev PGt (X : Cx) (e : Expr) (g : Tg) : Prop := PG X e (gT X.K g)
theorem g_nm {i : Nat} {x : Str} (hN : X.N.Nodup) (hi : X.N[i]? = some x) (hx : Loc X.env.scope x) (hf : X.fn x = true ∨ X.env.scope.names.lookup x = some .local := by first | exact .inl rfl | exact .inr rfl) : PGt X (.Name x pos) (.nm i) := pg_name hN hi hx hf
inductive Gs (X : Cx) : List Expr → List Nat → Prop
  | nil : Gs X [] []
  | cons {e : Expr} {es : List Expr} {i : Nat} {is : List Nat} : PG X e (gName i) → (assignEach (e :: es) X.env).map (·.2) = assign e X.env :: (assignEach es X.env).map (·.2) → Gs X es is → Gs X (e :: es) (i :: is)
theorem Gs.pg {es : List Expr} {is : List Nat} (h : Gs X es is) : PGs X es (gs is) := by
  induction h with
  | nil => exact pgs_nil
  | cons h1 h2 _ ih => exact pgs_cons h1 ih h2
theorem g_tp {es : List Expr} {k : Nat} {is : List Nat} (hc : X.calm = true) (h : Gs X es is) (hn : (assignEach es X.env).length = is.length := by rfl) (hst : (assignEach es X.env).findIdx? (·.1) = none := by rfl) : PGt X (.Tuple es k pos) (.tp is) := pg_tup hc h.pg hn hst
end
/-- still: what must stand of the source (m: nothing but what a step may do; else what is settled stays) -/
def Cs (m : Bool) (pn : Pn) (F1 H1 F H : Hp) : Prop := match m with
  | true => Ext pn F1 H1 F H
  | false => Same F1 F
theorem Cs.same {m : Bool} {pn : Pn} {F1 H1 F H : Hp} (h : Cs m pn F1 H1 F H) : Same F1 F := match m, h with
  | true, h => h.fsub
  | false, h => h
def ItOk (K : PySem.W.Frag) (pn : Pn) (w : Bool) (C : Hp → Hp → Prop) (J : It) (items : List PyData) : Prop :=
  ∀ (i : Nat) (F H : Hp) (b : Nat), Ok pn b F H → C F H → (i < items.length → J.go i H) ∧ (items.length ≤ i → J.stop i H) ∧
    ∀ (x : V) (H' : Hp), J.yld i H x H' → i < items.length → ∃ F' d, items[i]? = some d ∧ RVw K w F' H' x d ∧ Ok pn b F' H' ∧ Ext pn F H F' H'
abbrev WI := En → Nat → (List PyData → Nat → Prop) → Prop
def lI (K : PySem.W.Frag) (m w : Bool) (t : WI) : TI := fun σ H R => ∃ pn F env b P, Rep K pn F H σ env b ∧ t env b P ∧
  ∀ items F' H' b' J, Ok pn b' F' H' → Ext pn F H F' H' → ItOk K pn w (Cs m pn F' H') J items → P items b' → R J H'
section
variable {X : Cx} {tg e : Expr}
theorem PI.imp {t u : TI} (h : PI X tg e t) (i : ∀ σ H R, u σ H R → t σ H R) : PI X tg e u := ⟨fun pins s σ H R I q => h.run pins s σ H R I (i _ _ _ q)⟩
theorem it_list {K : PySem.W.Frag} {pn : Pn} {C : Hp → Hp → Prop} {a : Addr} {items : List PyData} (h : ∀ F H b, Ok pn b F H → C F H → ∃ vs, H a = some (.lst vs) ∧ RVs K F vs items) : ItOk K pn true C (Itl K a) items := fun i F H b o c => by
  obtain ⟨vs, ha, r⟩ := h F H b o c
  refine ⟨fun hi => ?_, fun hi => ⟨vs, SqL.of ha, by rw [r.len]; exact hi⟩, fun x H' y hi => ?_⟩
  · obtain ⟨v, hv, _⟩ := r.at' (List.getElem?_eq_getElem hi)
    exact ⟨vs, v, SqL.of ha, hv⟩
  · obtain ⟨rfl, y⟩ := y
    obtain ⟨v, hv, rv⟩ := r.at' (List.getElem?_eq_getElem hi)
    have e1 := y vs (SqL.of ha)
    rw [hv] at e1
    cases e1
    exact ⟨F, _, List.getElem?_eq_getElem hi, .inl rv, o, .refl⟩
theorem it_tup {K : PySem.W.Frag} {pn : Pn} {C : Hp → Hp → Prop} {a : Addr} {items : List PyData} (h : ∀ F H b, Ok pn b F H → C F H → ∃ vs, SqT K H a vs ∧ RVs K F vs items) : ItOk K pn true C (Itt K a) items := fun i F H b o c => by
  obtain ⟨vs, ha, r⟩ := h F H b o c
  refine ⟨fun hi => ?_, fun hi => ⟨vs, ha, by rw [r.len]; exact hi⟩, fun x H' y hi => ?_⟩
  · obtain ⟨v, hv, _⟩ := r.at' (List.getElem?_eq_getElem hi)
    exact ⟨vs, v, ha, hv⟩
  · obtain ⟨rfl, y⟩ := y
    obtain ⟨v, hv, rv⟩ := r.at' (List.getElem?_eq_getElem hi)
    have e1 := y vs ha
    rw [hv] at e1
    cases e1
    exact ⟨F, _, List.getElem?_eq_getElem hi, .inl rv, o, .refl⟩
def signs (z : Str) : List PyData := z.cps.toList.map fun c => .str ⟨#[c]⟩
theorem it_str {K : PySem.W.Frag} {pn : Pn} {C : Hp → Hp → Prop} {z : Str} : ItOk K pn true C (Its z) (signs z) := fun i F H b o c => by
  have hl : (signs z).length = z.cps.size := by simp [signs]
  refine ⟨fun hi => by rw [hl] at hi; exact hi, fun hi => by rw [hl] at hi; exact hi, fun x H' y hi => ?_⟩
  obtain ⟨rfl, c, hc, rfl⟩ := y
  refine ⟨F, .str ⟨#[c]⟩, ?_, .inl (.str _), o, .refl⟩
  unfold signs
  rw [List.getElem?_map, Array.getElem?_toList, hc]
  rfl
def seqOf : PyData → Option (List PyData)
  | .list xs => some xs
  | .tuple xs => some xs
  | .str z => some (signs z)
  | _ => none
def wSeq (t : WE) : WI := fun env b P => t env b fun x b1 => match seqOf x with | some xs => P xs b1 | none => False
/-- a list, a tuple, a text -/
def iAny (K : PySem.W.Frag) (te : TE) : TI := fun σ H R => te σ H fun x H1 => (∃ a, x = .ref a ∧ (∃ xs, SqL K H1 a xs) ∧ R (Itl K a) H1) ∨ (∃ a, x = .ref a ∧ (∃ xs, SqT K H1 a xs) ∧ R (Itt K a) H1) ∨ ∃ z, x = .str z ∧ R (Its z) H1
theorem i_any {te : TE} (hl : PE X e te) : PI X tg e (iAny X.K te) := by
  refine ⟨fun pins s σ H R I h => ?_⟩
  refine thn (hl.run pins s σ H _ I h) fun v s1 q => ?_
  obtain ⟨x, H1, I1, r1, q1⟩ := q
  rcases q1 with ⟨a, rfl, ⟨xs, hq⟩, q⟩ | ⟨a, rfl, ⟨xs, hq⟩, q⟩ | ⟨z, rfl, q⟩
  · cases r1
    obtain ⟨its, rv, p, hz⟩ := I1.list hq
    exact wpAny_pyIter_list p.isList (pi_one (tk := s1.toks) I1 _ (turn_list a _) ⟨_, Heap.get?_push_size _ rfl, rfl, rfl⟩ q)
  · cases r1
    obtain ⟨its, rv, p, hz⟩ := I1.tuple hq
    exact wpAny_pyIter_tuple (show s1.heap.IsTuple a its.toArray from p) (pi_one (tk := s1.toks) I1 _ (turn_tuple a _) ⟨_, Heap.get?_push_size _ rfl, rfl, rfl⟩ q)
  · obtain ⟨t, rfl⟩ := r1
    cases ha : z.cps.all (· < 128)
    · exact wpAny_pyIter_wide ha (pi_one (tk := s1.toks) I1 _ (turn_str _ z t "str_iterator" (.inr rfl)) ⟨_, Heap.get?_push_size _ rfl, rfl, rfl⟩ q)
    · exact wpAny_pyIter_ascii ha (pi_one (tk := s1.toks) I1 _ (turn_str _ z t "str_ascii_iterator" (.inl rfl)) ⟨_, Heap.get?_push_size _ rfl, rfl, rfl⟩ q)
/-- .. that is settled -/
theorem i_seq {t : WE} (m : Bool) (h : EE X e t) : PI X tg e (lI X.K m true (wSeq t)) := PI.imp (i_any h) fun σ H R ⟨pn, F, env, b, P, rep, w, k⟩ => by
  refine ⟨pn, F, env, b, _, rep, w, fun v x F1 H1 b1 o1 e1 rv t1 => ?_⟩
  cases rv with
  | lst h r => exact .inl ⟨_, rfl, ⟨_, SqL.of (o1.sub _ _ h)⟩, k _ F1 H1 b1 _ o1 e1 (it_list fun F H b o c => ⟨_, o.sub _ _ (c.same _ _ h), r.mono c.same⟩) t1⟩
  | tup h r => exact .inr (.inl ⟨_, rfl, ⟨_, Same.tup o1.sub h.sq⟩, k _ F1 H1 b1 _ o1 e1 (it_tup fun F H b o c => ⟨_, Same.tup o.sub (Same.tup c.same h.sq), r.mono c.same⟩) t1⟩)
  | str z => exact .inr (.inr ⟨z, rfl, k _ F1 H1 b1 _ o1 e1 it_str t1⟩)
  | _ => exact t1.elim
/-- .. or a list of one's own -/
theorem i_seqB {t : WE} (h : EB X e t) : PI X tg e (lI X.K true true (wSeq t)) := PI.imp (i_any h) fun σ H R ⟨pn, F, env, b, P, rep, w, k⟩ => by
  refine ⟨pn, F, env, b, _, rep, w, fun v x F1 H1 b1 o1 e1 bv t1 => ?_⟩
  rcases bv with rv | ⟨xs, rfl, a, vs, rfl, f, np, nc, ha, r⟩
  · cases rv with
    | lst h r => exact .inl ⟨_, rfl, ⟨_, SqL.of (o1.sub _ _ h)⟩, k _ F1 H1 b1 _ o1 e1 (it_list fun F H b o c => ⟨_, o.sub _ _ (c.fsub _ _ h), r.mono c.fsub⟩) t1⟩
    | tup h r => exact .inr (.inl ⟨_, rfl, ⟨_, Same.tup o1.sub h.sq⟩, k _ F1 H1 b1 _ o1 e1 (it_tup fun F H b o c => ⟨_, Same.tup o.sub (Same.tup c.fsub h.sq), r.mono c.fsub⟩) t1⟩)
    | str z => exact .inr (.inr ⟨z, rfl, k _ F1 H1 b1 _ o1 e1 it_str t1⟩)
    | _ => exact t1.elim
  · exact .inl ⟨a, rfl, ⟨vs, SqL.of ha⟩, k _ F1 H1 b1 _ o1 e1 (it_list fun F H b o c => ⟨vs, (c.keep _ _ ha f np).1, r.mono c.fsub⟩) t1⟩
/-- range(n), range(i, j) -/
def rngD (lo : Int) (n : Nat) : List PyData := (List.range n).map fun (i : Nat) => .int (lo + i)
theorem it_rng {K : PySem.W.Frag} {pn : Pn} {C : Hp → Hp → Prop} {lo : Int} {n : Nat} : ItOk K pn true C (Itr lo n) (rngD lo n) := fun i F H b o c => by
  have hl : (rngD lo n).length = n := by simp [rngD]
  refine ⟨fun hi => by rw [hl] at hi; exact hi, fun hi => by rw [hl] at hi; exact hi, fun x H' y hi => ?_⟩
  obtain ⟨rfl, rfl⟩ := y
  rw [hl] at hi
  refine ⟨F, .int (lo + i), ?_, .inl (.int _), o, .refl⟩
  unfold rngD
  rw [List.getElem?_map, List.getElem?_range hi]
  rfl
def wRng1 (t : WE) : WI := fun env b P => t env b fun x b1 => match x with | .int j => -(2 ^ 62) ≤ j ∧ j < 2 ^ 62 ∧ P (rngD 0 j.toNat) b1 | _ => False
theorem i_rng1 {a : Expr} {t : WE} {p pos : Pos} (m : Bool) (hg : Gl X "range") (hm : X.mg "range" = none) (ha : EB X a t) (hs : starEach [a] X.env = [(false, eval a X.env)] := by rfl) : PI X tg (.Call (.Name "range" p) [a] [] pos) (lI X.K m true (wRng1 t)) :=
  PI.imp (pi_range1 hg hm (pa_cons ha pa_nil hs) hs) fun σ H R ⟨pn, F, env, b, P, rep, w, k⟩ => by
    refine ⟨pn, F, env, b, _, rep, w, fun v x F1 H1 b1 o1 e1 bv t1 => ?_⟩
    cases x with
    | int j => exact ⟨j, by rw [bv.int], t1.1, t1.2.1, k _ F1 H1 b1 _ o1 e1 it_rng t1.2.2⟩
    | _ => exact t1.elim
/-- enumerate(list) -/
def enumD (xs : List PyData) : List PyData := xs.zipIdx.map fun p => .tuple [.int (p.2 : Nat), p.1]
/-- zip(a, b): two lists or two tuples -/
def zipD : List PyData → List PyData → List PyData
  | x :: xs, y :: ys => .tuple [x, y] :: zipD xs ys
  | _, _ => []
theorem zipD_at : ∀ {xs ys : List PyData} {i : Nat} {x y : PyData}, xs[i]? = some x → ys[i]? = some y → (zipD xs ys)[i]? = some (.tuple [x, y])
  | [], _, _, _, _, h, _ => by simp at h
  | _ :: _, [], _, _, _, _, h => by simp at h
  | _ :: _, _ :: _, 0, _, _, h, h2 => by simp at h h2; subst h; subst h2; rfl
  | _ :: xs, _ :: ys, i + 1, _, _, h, h2 => by
    have := zipD_at (xs := xs) (ys := ys) (i := i) (by simpa using h) (by simpa using h2)
    simpa [zipD] using this
theorem zipD_len : ∀ (xs ys : List PyData), (zipD xs ys).length = min xs.length ys.length
  | [], _ => by simp [zipD]
  | _ :: _, [] => by simp [zipD]
  | _ :: xs, _ :: ys => by simp [zipD, zipD_len xs ys]
def wZip (t u : WE) : WI := fun env b P => t env b fun x b1 => u env b1 fun y b2 => match x, y with
  | .list xs, .list ys => P (zipD xs ys) b2
  | .tuple xs, .tuple ys => P (zipD xs ys) b2
  | _, _ => False
theorem it_zip {K : PySem.W.Frag} {pn : Pn} {C : Hp → Hp → Prop} {a c : Addr} {xs ys : List PyData} (h : ∀ F H b, Ok pn b F H → C F H → ∃ vs us, H a = some (.lst vs) ∧ RVs K F vs xs ∧ H c = some (.lst us) ∧ RVs K F us ys) : ItOk K pn false C (Itz K a c) (zipD xs ys) := fun i F H b o cc => by
  obtain ⟨vs, us, ha, r, hc, r2⟩ := h F H b o cc
  refine ⟨fun hi => ?_, fun hi => ⟨vs, us, SqL.of ha, SqL.of hc, by rw [zipD_len] at hi; rw [r.len, r2.len]; omega⟩, fun x H' y hi => ?_⟩
  · rw [zipD_len] at hi
    obtain ⟨v, hv, _⟩ := r.at' (List.getElem?_eq_getElem (show i < xs.length by omega))
    obtain ⟨u, hu, _⟩ := r2.at' (List.getElem?_eq_getElem (show i < ys.length by omega))
    exact ⟨vs, us, v, u, SqL.of ha, SqL.of hc, hv, hu⟩
  · rw [zipD_len] at hi
    obtain ⟨T, w1, w2, rfl, nT, rfl, y1, y2⟩ := y
    have l1 : i < xs.length := by omega
    have l2 : i < ys.length := by omega
    obtain ⟨v, hv, rv⟩ := r.at' (List.getElem?_eq_getElem l1)
    obtain ⟨u, hu, ru⟩ := r2.at' (List.getElem?_eq_getElem l2)
    have e1 := y1 vs (SqL.of ha)
    have e2 := y2 us (SqL.of hc)
    rw [hv] at e1
    rw [hu] at e2
    cases e1
    cases e2
    exact ⟨_, _, zipD_at (List.getElem?_eq_getElem l1) (List.getElem?_eq_getElem l2), .inr ⟨rfl, T, _, _, rfl, rfl, SqT.of upd_same, .cons (rv.mono (same_new (o.free nT))) (.one (ru.mono (same_new (o.free nT))))⟩, o.new nT, .new o nT⟩
theorem it_zipT {K : PySem.W.Frag} {pn : Pn} {C : Hp → Hp → Prop} {a c : Addr} {xs ys : List PyData} (h : ∀ F H b, Ok pn b F H → C F H → ∃ vs us, SqT K H a vs ∧ RVs K F vs xs ∧ SqT K H c us ∧ RVs K F us ys) : ItOk K pn false C (RZ.ItzT K a c) (zipD xs ys) := fun i F H b o cc => by
  obtain ⟨vs, us, ha, r, hc, r2⟩ := h F H b o cc
  refine ⟨fun hi => ?_, fun hi => ⟨vs, us, ha, hc, by rw [zipD_len] at hi; rw [r.len, r2.len]; omega⟩, fun x H' y hi => ?_⟩
  · rw [zipD_len] at hi
    obtain ⟨v, hv, _⟩ := r.at' (List.getElem?_eq_getElem (show i < xs.length by omega))
    obtain ⟨u, hu, _⟩ := r2.at' (List.getElem?_eq_getElem (show i < ys.length by omega))
    exact ⟨vs, us, v, u, ha, hc, hv, hu⟩
  · rw [zipD_len] at hi
    obtain ⟨T, w1, w2, rfl, nT, rfl, y1, y2⟩ := y
    have l1 : i < xs.length := by omega
    have l2 : i < ys.length := by omega
    obtain ⟨v, hv, rv⟩ := r.at' (List.getElem?_eq_getElem l1)
    obtain ⟨u, hu, ru⟩ := r2.at' (List.getElem?_eq_getElem l2)
    have e1 := y1 vs ha
    have e2 := y2 us hc
    rw [hv] at e1
    rw [hu] at e2
    cases e1
    cases e2
    exact ⟨_, _, zipD_at (List.getElem?_eq_getElem l1) (List.getElem?_eq_getElem l2), .inr ⟨rfl, T, _, _, rfl, rfl, SqT.of upd_same, .cons (rv.mono (same_new (o.free nT))) (.one (ru.mono (same_new (o.free nT))))⟩, o.new nT, .new o nT⟩
theorem i_zip {a c : Expr} {t u : WE} {p pos tpos : Pos} {elts : List Expr} {kk : Nat} (m : Bool) (hg : Gl X "zip") (hm : X.mg "zip" = none) (ha : EE X a t) (hb : EE X c u)
    (hs : starEach [a, c] X.env = (false, eval a X.env) :: starEach [c] X.env := by rfl) (hs2 : starEach [c] X.env = (false, eval c X.env) :: starEach [] X.env := by rfl) (hpl : (backTo pos (starEach [c] X.env)).any (·.1) = false := by rfl) :
    PI X (.Tuple elts kk tpos) (.Call (.Name "zip" p) [a, c] [] pos) (lI X.K m false (wZip t u)) :=
  PI.imp (RZ.pi_zipA hg hm (pa_cons ha (pa_cons hb pa_nil hs2) hs) hs hpl) fun σ H R ⟨pn, F, env, b, P, rep, w, k⟩ => by
    refine ⟨pn, F, env, b, _, rep, w, fun v x F1 H1 b1 o1 e1 rv t1 => ?_⟩
    refine ⟨pn, F1, env, b1, _, rep.ext o1 e1, t1, fun v2 y F2 H2 b2 o2 e2 ru t2 => ?_⟩
    have rv2 := rv.mono e2.fsub
    cases rv2 with
    | lst h r =>
      cases ru with
      | lst h2 r2 => exact ⟨_, _, _, _, rfl, .inl ⟨SqL.of (o2.sub _ _ h), SqL.of (o2.sub _ _ h2), k _ F2 H2 b2 _ o2 (e1.trans e2) (it_zip fun F H b o c => ⟨_, _, o.sub _ _ (c.same _ _ h), r.mono c.same, o.sub _ _ (c.same _ _ h2), r2.mono c.same⟩) t2⟩⟩
      | _ => exact t2.elim
    | tup h r =>
      cases ru with
      | tup h2 r2 => exact ⟨_, _, _, _, rfl, .inr ⟨Same.tup o2.sub h.sq, Same.tup o2.sub h2.sq, k _ F2 H2 b2 _ o2 (e1.trans e2) (it_zipT fun F H b o c => ⟨_, _, Same.tup o.sub (Same.tup c.same h.sq), r.mono c.same, Same.tup o.sub (Same.tup c.same h2.sq), r2.mono c.same⟩) t2⟩⟩
      | _ => exact t2.elim
    | _ => exact t2.elim
end
end Pu
namespace Pu
open PySem PySem.Spec PyProof.Rows L2
def sNext : WS := fun PD env b => PD.nx env b
def sSeq (t u : WS) : WS := fun PD env b => t { PD with nx := fun env' b' => u PD env' b' } env b
def sRet (t : WE) : WS := fun PD env b => t env b PD.rt
def sIf (c : WT) (t u : WS) : WS := fun PD env b => c env b fun k b' => if k = true then t PD env b' else u PD env b'
def sAsg (t : WE) (g : Tg) : WS := fun PD env b => t env b fun d b' => match setT g d env with | some env' => PD.nx env' b' | none => False
def sSet (t : WE) (i : Nat) : WS := fun PD env b => t env b fun d b' => PD.nx (env.set i (some (.d d))) b'
def sSetL (t : WF) (i : Nat) : WS := fun PD env b => t env b fun d b' => PD.nx (env.set i (some (.l d))) b'
def sApp (i : Nat) (t : WE) : WS := fun PD env b => match env[i]? with
  | some (some (.l xs)) => t env b fun d b' => xs.length < sizeLine ∧ PD.nx (env.set i (some (.l (xs ++ [d])))) b'
  | _ => False
/-- what a read may end in: the list a name holds, settled as it is handed back -/
def sRetN (i : Nat) : WS := fun PD env b => match env[i]? with
  | some (some (.d x)) => PD.rt x b
  | some (some (.l xs)) => PD.rt (.list xs) b
  | _ => False
section
variable {X : Cx} {st : Stmt} {rest : List Stmt} {t u : WS} {e : Expr} {te : WE} {pos : Pos}
theorem sb_nil : SB X [] sNext := PSs.imp pss_nil fun D σ H ⟨pn, F0, H0, F, env, b, PD, rep, t, k, _⟩ => (k σ F H env b rep).1 t
theorem lS_in {K : PySem.W.Frag} {t u : WS} {D : Ends} {σ : L2.St} {H : Hp} (h : lS K (sSeq t u) D σ H) : tSeq (lS K t) (lS K u) D σ H := by
  obtain ⟨pn, F0, H0, F, env, b, PD, rep, w, k, r⟩ := h
  refine ⟨pn, F0, H0, F, env, b, { PD with nx := fun env' b' => u PD env' b' }, rep, w, fun σ' F' H' env' b' rep' => ⟨fun q => ?_, (k σ' F' H' env' b' rep').2.1, (k σ' F' H' env' b' rep').2.2⟩, r⟩
  exact ⟨pn, F0, H0, F', env', b', PD, rep', q, k, r⟩
theorem sb_cons (h1 : SS X st t) (h2 : SB X rest u) : SB X (st :: rest) (sSeq t u) := PSs.imp (pss_cons h1 h2) fun _ _ _ h => lS_in h
theorem sb_one (h1 : SS X st t) : SB X [st] t := pss_one h1
theorem s_ret (he : EE X e te) : SS X (.Return (some e) pos) (sRet te) := PS.imp (ps_ret he) fun D σ H ⟨pn, F0, H0, F, env, b, PD, rep, t, k, r⟩ =>
  ⟨pn, F, env, b, PD.rt, rep.rep, t, fun v d F' H' b' o x rv q => r.1 v d F' H' b' o (rep.ext.trans x) rv q⟩
theorem s_retN {i : Nat} {x : Str} {p : Pos} (h : PE X (.Name x p) (tVar i)) : SS X (.Return (some (.Name x p)) pos) (sRetN i) := PS.imp (ps_ret h) fun D σ H ⟨pn, F0, H0, F, env, b, PD, rep, t, k, r⟩ => by
  unfold sRetN at t
  split at t
  · rename_i y h
    obtain ⟨v, h1, h2⟩ := rep.rep.slot i _ h
    exact ⟨v, h1, r.1 v y F H b rep.rep.ok rep.ext h2 t⟩
  · rename_i ys h
    obtain ⟨v, h1, a, vs, rfl, fa, np, nc, ha, rv⟩ := rep.rep.slot i _ h
    have n0 := rep.own i a _ rfl h h1
    refine ⟨_, h1, r.1 _ _ (upd F a (.lst vs)) H b (rep.rep.ok.settle ha fa np nc) ⟨rep.ext.fsub.trans (same_new fa), fun c o hc fc npc => ?_⟩ (.lst upd_same (rv.mono (same_new fa))) t⟩
    obtain ⟨q1, q2⟩ := rep.ext.keep c o hc fc npc
    exact ⟨q1, by rw [upd_ne (fun z => by rw [z, n0] at hc; cases hc)]; exact q2⟩
  · exact t.elim
theorem s_if {c : Expr} {p q : List Stmt} {tc : WT} (hc : ET X c tc) (ha : SB X p t) (hb : SB X q u) : SS X (.If c p q pos) (sIf tc t u) := PS.imp (ps_if hc ha hb) fun D σ H ⟨pn, F0, H0, F, env, b, PD, rep, w, k, r⟩ => by
  refine ⟨pn, F, env, b, _, rep.rep, w, fun kc F1 H1 b1 o1 e1 t1 => ?_⟩
  cases kc with
  | true => exact ⟨pn, F0, H0, F1, env, b1, PD, rep.ext' o1 e1, t1, k, r⟩
  | false => exact ⟨pn, F0, H0, F1, env, b1, PD, rep.ext' o1 e1, t1, k, r⟩
theorem s_asg {tg : Expr} {g : Tg} (he : EE X e te) (hg : PGt X tg g) (hs : swapsWithSole [tg] e pos.line X.env = pure false := by rfl) (hw : swappedStores [tg] e X.env = pure none := by rfl) (h1 : (assignEach [tg] X.env).map (·.2) = [assign tg X.env] := by rfl) :
    SS X (.Assign [tg] e pos) (sAsg te g) := PS.imp (ps_asg he hg hs hw h1) fun D σ H ⟨pn, F0, H0, F, env, b, PD, rep, t, k, r⟩ => by
  refine ⟨pn, F, env, b, _, rep.rep, t, fun v d F' H' b' o x rv q => ?_⟩
  split at q
  · rename_i env' h
    exact gT_run (w := true) (F0 := F0) (H0 := H0) o (.inl rv) (.inl rfl) h fun vs c1 _ => (k _ F' H' env' b' (c1 (rep.ext' o x))).1 q
  · exact q.elim
theorem s_set {i : Nat} {x : Str} {pos' : Pos} (hN : X.N.Nodup) (hi : X.N[i]? = some x) (hx : Loc X.env.scope x) (he : EE X e te) (hs : swapsWith e (some (.Name x pos')) pos.line X.env = pure false := by rfl) (hf : X.fn x = true ∨ X.env.scope.names.lookup x = some .local := by first | exact .inl rfl | exact .inr rfl) :
    SS X (.Assign [.Name x pos'] e pos) (sSet te i) := PS.imp (ps_set hN hi hx he hs hf) fun D σ H ⟨pn, F0, H0, F, env, b, PD, rep, t, k, r⟩ =>
  ⟨pn, F, env, b, _, rep.rep, t, fun v d F' H' b' o x rv q => (k _ F' H' _ b' ((rep.ext' o x).setD rv)).1 q⟩
theorem Ext.bk {pn : Pn} {b' : Nat} {F H F' H' : Hp} (x : Ext pn F H F' H') (o' : Ok pn b' F' H') {a : Addr} (h : H' a = none) : H a = none := by
  cases e : H a with
  | none => rfl
  | some u =>
    exfalso
    cases f : F a with
    | some z =>
      have := o'.sub a z (x.fsub a z f)
      rw [h] at this; cases this
    | none =>
      by_cases n : NotPen pn a
      · have := (x.keep a u e f n).1
        rw [h] at this; cases this
      · exact n (o'.pen.apartN h).1
/-- a fresh list's address is nobody's -/
theorem RepS.fresh {K : PySem.W.Frag} {pn : Pn} {b : Nat} {F0 H0 F H : Hp} {σ : L2.St} {env : En} (rep : RepS K pn F0 H0 F H σ env b) {v : V} (nw : ∀ a, v = .ref a → H a = none) :
    ∀ a, v = .ref a → H0 a = none ∧ ∀ (j : Nat) (ys : List PyData), (env[j]? = some (some (Sl.l ys)) ∨ env[j]? = some (some (Sl.r ys))) → σ[j]? ≠ some (some (V.ref a)) := by
  intro a ea
  have ha := nw a ea
  refine ⟨rep.ext.bk rep.rep.ok ha, fun j ys h z => ?_⟩
  rcases h with h | h
  all_goals
    obtain ⟨w, hw, c, vs, rfl, _, _, _, hc, _⟩ := rep.rep.slot j _ h
    rw [z] at hw
    cases hw
    rw [ha] at hc; cases hc
def sPar (i j : Nat) (t u : WE) : WS := fun PD env b => t env b fun x b1 => u env b1 fun y b2 => PD.nx ((env.set i (some (.d x))).set j (some (.d y))) b2
def sParL (i j : Nat) (t : WE) (u : WF) : WS := fun PD env b => t env b fun x b1 => u env b1 fun y b2 => PD.nx ((env.set i (some (.d x))).set j (some (.l y))) b2
variable {a c : Expr} {ta tb : WE} {tf : WF} {x y z : Str} {px py pz pt : Pos} {kt k2 : Nat} {pt2 : Pos} {i j l : Nat}
theorem s_par (hc : X.calm = true) (hN : X.N.Nodup) (hi : X.N[i]? = some x) (hj : X.N[j]? = some y) (hij : i ≠ j) (hx : X.env.scope.names.lookup x = some .local) (hy : X.env.scope.names.lookup y = some .local) (ha : EE X a ta) (hb : EE X c tb)
    (hw : swappedStores [.Tuple [.Name x px, .Name y py] kt pt] (.Tuple [a, c] k2 pt2) X.env = pure (some [x, y])) (hs : swapsWithSole [.Tuple [.Name x px, .Name y py] kt pt] (.Tuple [a, c] k2 pt2) pos.line X.env = pure false := by rfl)
    (h1 : starEach [a, c] X.env = (false, eval a X.env) :: starEach [c] X.env := by rfl) (h2 : starEach [c] X.env = (false, eval c X.env) :: starEach [] X.env := by rfl) :
    SS X (.Assign [.Tuple [.Name x px, .Name y py] kt pt] (.Tuple [a, c] k2 pt2) pos) (sPar i j ta tb) := PS.imp (ps_par hc hN hi hj hij hx hy (pa_cons ha (pa_cons hb pa_nil h2) h1) hw hs) fun D σ H ⟨pn, F0, H0, F, env, b, PD, rep, t, k, r⟩ => by
  refine ⟨pn, F, env, b, _, rep.rep, t, fun v d F1 H1 b1 o1 x1 rv t1 => ?_⟩
  refine ⟨pn, F1, env, b1, _, rep.rep.ext o1 x1, t1, fun u e F2 H2 b2 o2 x2 ru t2 => ?_⟩
  exact ⟨v, u, rfl, (k _ F2 H2 _ b2 ((((rep.ext' o1 x1).ext' o2 x2).setD (rv.mono x2.fsub)).setD ru)).1 t2⟩
theorem s_parL (hc : X.calm = true) (hN : X.N.Nodup) (hi : X.N[i]? = some x) (hj : X.N[j]? = some y) (hij : i ≠ j) (hx : X.env.scope.names.lookup x = some .local) (hy : X.env.scope.names.lookup y = some .local) (ha : EE X a ta) (hb : EF X c tf)
    (hw : swappedStores [.Tuple [.Name x px, .Name y py] kt pt] (.Tuple [a, c] k2 pt2) X.env = pure (some [x, y])) (hs : swapsWithSole [.Tuple [.Name x px, .Name y py] kt pt] (.Tuple [a, c] k2 pt2) pos.line X.env = pure false := by rfl)
    (h1 : starEach [a, c] X.env = (false, eval a X.env) :: starEach [c] X.env := by rfl) (h2 : starEach [c] X.env = (false, eval c X.env) :: starEach [] X.env := by rfl) :
    SS X (.Assign [.Tuple [.Name x px, .Name y py] kt pt] (.Tuple [a, c] k2 pt2) pos) (sParL i j ta tf) := PS.imp (ps_par hc hN hi hj hij hx hy (pa_cons ha (pa_cons hb pa_nil h2) h1) hw hs) fun D σ H ⟨pn, F0, H0, F, env, b, PD, rep, t, k, r⟩ => by
  refine ⟨pn, F, env, b, _, rep.rep, t, fun v d F1 H1 b1 o1 x1 rv t1 => ?_⟩
  have rep1 := rep.ext' o1 x1
  refine ⟨pn, F1, env, b1, _, rep1.rep, t1, fun u e F2 H2 b2 o2 x2 ow nw t2 => ?_⟩
  have f1 := rep1.fresh nw
  refine ⟨v, u, rfl, (k _ F2 H2 _ b2 (((rep1.ext' o2 x2).setD (rv.mono x2.fsub)).setL ow fun q eq => ⟨(f1 q eq).1, fun m ys h => ?_⟩)).1 t2⟩
  have mi : m ≠ i := fun e => by
    subst e
    rcases h with h | h
    all_goals
      have hl : m < env.length := by have := (List.getElem?_eq_some_iff.mp h).1; simpa using this
      rw [List.getElem?_set_self hl] at h
      cases h
  rw [List.getElem?_set_ne (Ne.symm mi)] at h ⊢
  exact (f1 q eq).2 m ys h
/-- xs.append(e) -/
theorem s_app {i : Nat} {x : Str} {p apos cpos : Pos} (h : PE X (.Name x p) (tVar i)) (he : EE X e te) (hb : attributeBase (.Name x p) "append" X.env (eval (.Name x p) X.env) = eval (.Name x p) X.env := by rfl)
    (hfew : ((backTo cpos (starEach [e] X.env)).all (fun x => !x.1) && (backToKw cpos (keywordEach [] X.env)).all (fun x => x.1.isSome) && decide ([e].length + ([] : List Keyword).length + (if ([] : List Keyword).isEmpty then 0 else 1) < 30)) = true := by rfl)
    (hl : (apos.endLine == cpos.line) = true := by rfl) (hs : starEach [e] X.env = (false, eval e X.env) :: starEach [] X.env := by rfl) (hp : (backTo cpos (starEach [] X.env)).any (·.1) = false := by rfl)
    (hw : swapsWith (.Call (.Attribute (.Name x p) "append" apos) [e] [] cpos) none pos.line X.env = pure false := by rfl) :
    SS X (.Expr (.Call (.Attribute (.Name x p) "append" apos) [e] [] cpos) pos) (sApp i te) :=
  PS.imp (ps_expr (pe_bm PySem.F.plainAttrs_list PySem.F.slot_list_append PySem.F.type_list_append mt_append h (pa_cons he pa_nil hs) hb hfew hl hs hp) hw) fun D σ H ⟨pn, F0, H0, F, env, b, PD, rep, t, k, r⟩ => by
    unfold sApp at t
    split at t
    · rename_i xs hx
      obtain ⟨v, hv, ow⟩ := rep.rep.slot i _ hx
      obtain ⟨a, vs, rfl, fa, np, nc, ha, rvs⟩ := id ow
      refine ⟨.ref a, hv, .inl ⟨rfl, vs, SqL.of ha⟩, pn, F, env, b, _, rep.rep, t, fun w d F1 H1 b1 o1 x1 rv q => ?_⟩
      obtain ⟨ha1, fa1⟩ := x1.keep a _ ha fa np
      exact ⟨a, vs, w, rfl, rfl, ha1, by rw [rvs.len]; exact q.1, (k σ F1 _ _ b1 ((rep.ext' o1 x1).write hx hv ((rvs.mono x1.fsub).app (.one rv)))).1 q.2⟩
    · exact t.elim
end
def hU (H0 F1 : Hp) : Hp := fun a => match F1 a with
  | some o => some o
  | none => H0 a
section
variable {K : PySem.W.Frag} {pn : Pn} {b : Nat} {F0 H0 F1 H1 F H : Hp} {σ : L2.St} {env : En}
theorem hU_none {a : Addr} (h : F1 a = none) : hU H0 F1 a = H0 a := by unfold hU; rw [h]
theorem Ext.down (x : Ext pn F0 H0 F1 H1) (y : Ext pn F1 (hU H0 F1) F H) : Ext pn F0 H0 F H :=
  ⟨x.fsub.trans y.fsub, fun a o h f n => by
    have f1 := (x.keep a o h f n).2
    exact y.keep a o (by rw [hU_none f1]; exact h) f1 n⟩
theorem Ext.up (x : Ext pn F0 H0 F1 H1) (y : Ext pn F0 H0 F H) (s : Same F1 F) : Ext pn F1 (hU H0 F1) F H :=
  ⟨s, fun a o h f n => by
    rw [hU_none f] at h
    exact y.keep a o h (x.fsub.free f) n⟩
theorem RepS.up (x : Ext pn F0 H0 F1 H1) (r : RepS K pn F0 H0 F H σ env b) (s : Same F1 F) : RepS K pn F1 (hU H0 F1) F H σ env b :=
  ⟨r.rep, x.up r.ext s, fun i a s' hq h1 h2 => by
    have h3 := r.own i a s' hq h1 h2
    obtain ⟨v, hv, sl⟩ := r.rep.slot i _ h1
    rw [h2] at hv
    cases hv
    rw [hU_none (s.free (sl.ownF hq))]; exact h3⟩
theorem RepS.down (x : Ext pn F0 H0 F1 H1) (r : RepS K pn F1 (hU H0 F1) F H σ env b) : RepS K pn F0 H0 F H σ env b :=
  ⟨r.rep, x.down r.ext, fun i a s' hq h1 h2 => by
    have h3 := r.own i a s' hq h1 h2
    obtain ⟨v, hv, sl⟩ := r.rep.slot i _ h1
    rw [h2] at hv
    cases hv
    rw [hU_none (r.ext.fsub.free (sl.ownF hq))] at h3; exact h3⟩
end
def wFor (g : Tg) (body : WS) (PD : PEnds) : List PyData → En → Nat → Prop
  | [], env, b => PD.nx env b
  | x :: xs, env, b => match setT g x env with
    | some env' => body { nx := wFor g body PD xs, ct := wFor g body PD xs, bk := PD.nx, rt := PD.rt, rl := PD.rl, xr := PD.xr } env' b
    | none => False
def sFor (t : WI) (g : Tg) (body : WS) : WS := fun PD env b => t env b fun xs b1 => wFor g body PD xs env b1
/-- a loop over a list of one's own, which is settled first -/
def sFz (i : Nat) (t : WS) : WS := fun PD env b => match env[i]? with
  | some (some (.l xs)) => t PD (env.set i (some (.d (.list xs)))) b
  | _ => t PD env b
section
variable {X : Cx} {pos : Pos} {tg iter : Expr} {g : Tg} {body : List Stmt} {ti : WI} {tb : WS}
theorem s_for {iw : Bool} (hp : PassesOwn (model X.prog X.w) X.A X.env X.xe) (hc : X.calm = true) (hi : PI X tg iter (lI X.K false iw ti)) (hg : PGt X tg g) (hb : SB X body tb) (hs : ∀ x, foldedSetIterable iter X.env x = pure x := by intro _; rfl) (hw : iw = true ∨ ∃ is, g = .tp is := by first | exact .inl rfl | exact .inr ⟨_, rfl⟩) :
    SS X (.For tg iter body [] pos) (sFor ti g tb) := PS.imp (ps_for hp hc hi hg hb hs) fun D σ H ⟨pn, F0, H0, F, env, b, PD, rep, t, k, r⟩ => by
  refine ⟨pn, F, env, b, _, rep.rep, t, fun items F1 H1 b1 J o1 x1 it t1 => ?_⟩
  refine ⟨fun i m σ H => ∃ F env b, RepS X.K pn F0 H0 F H σ env b ∧ Same F1 F ∧ i + m = items.length ∧ wFor g tb PD (items.drop i) env b, ⟨items.length, F1, env, b1, rep.ext' o1 x1, Same.refl _, by omega, t1⟩, fun i m σ H hW => ?_⟩
  obtain ⟨F2, env2, b2, rep2, sm, em, w⟩ := hW
  obtain ⟨go, stop, yld⟩ := it i F2 H b2 rep2.rep.ok sm
  by_cases hi : i < items.length
  · refine .inr ⟨go hi, fun σ' H' => ∃ F' env' b', RepS X.K pn F0 H0 F' H' σ' env' b' ∧ Same F1 F' ∧ wFor g tb PD (items.drop (i + 1)) env' b', fun σ' H' hN => ?_, fun x H' hy => ?_⟩
    · obtain ⟨F', env', b', r', s', w'⟩ := hN
      exact ⟨m - 1, by omega, F', env', b', r', s', by omega, w'⟩
    · obtain ⟨F', d, hd, rv, o', x'⟩ := yld x H' hy hi
      rw [List.drop_eq_getElem_cons hi] at w
      have ed : items[i] = d := by
        rw [List.getElem?_eq_getElem hi] at hd
        exact Option.some.inj hd
      rw [ed] at w
      unfold wFor at w
      split at w
      · rename_i env' hset
        refine gT_run (F0 := F0) (H0 := H0) (env := env2) o' rv hw hset fun vs c1 _ => ?_
        have rep3 := c1 (rep2.ext' o' x')
        have s3 := sm.trans x'.fsub
        have x01 := rep.ext.trans x1
        refine ⟨pn, F1, hU H0 F1, F', env', b2, _, rep3.up x01 s3, w, fun σ4 F4 H4 env4 b4 rep4 => ?_, ⟨fun v d F4 H4 b4 o4 x4 rv q => r.1 v d F4 H4 b4 o4 (x01.down x4) rv q, fun v d F4 H4 b4 o4 x4 ow nw q => r.2 v d F4 H4 b4 o4 (x01.down x4) ow (fun a ea => by
          have h3 := nw a ea
          obtain ⟨c, us, ec, fc, _⟩ := ow
          have : a = c := by rw [ea] at ec; exact V.ref.inj ec
          subst this
          rwa [hU_none (x4.fsub.free fc)] at h3) q⟩⟩
        have rep5 := rep4.down x01
        exact ⟨fun q => ⟨F4, env4, b4, rep5, rep4.ext.fsub, q⟩, fun q => (k σ4 F4 H4 env4 b4 rep5).1 q, fun q => ⟨F4, env4, b4, rep5, rep4.ext.fsub, q⟩⟩
      · exact w.elim
  · have e0 : items.drop i = [] := List.drop_of_length_le (by omega)
    rw [e0] at w
    exact .inl ⟨stop (by omega), (k σ F2 H env2 b2 rep2).1 w⟩
end
def wipeE (env : En) : List Nat → En
  | [] => env
  | v :: vs => (wipeE env vs).set v none
def wLc (g : Tg) (tt : WT) (te : WE) (own : List Nat) (env : En) : List PyData → Nat → List PyData → (List PyData → Nat → Prop) → Prop
  | [], b, acc, P => P acc b
  | x :: xs, b, acc, P => match setT g x (wipeE env own) with
    | some env' => tt env' b fun k b1 => if k = true then te env' b1 fun y b2 => wLc g tt te own env xs b2 (acc ++ [y]) P else wLc g tt te own env xs b1 acc P
    | none => False
def fLc (t : WI) (g : Tg) (tt : WT) (te : WE) (own : List Nat) : WF := fun env b P => t env b fun xs b1 => xs.length < sizeLine ∧ wLc g tt te own env xs b1 [] P
def wYes : WT := fun _ b P => P true b
abbrev ETs (X : Cx) (ifs : List Expr) (t : WT) : Prop := PTs X ifs (lT X.K t)
def Tg.slots : Tg → List Nat
  | .nm i => [i]
  | .tp is => is
theorem wipe_set {σ : L2.St} {v : V} {i : Nat} : ∀ {vs : List Nat}, i ∈ vs → wipe (σ.set i (some v)) vs = wipe σ vs
  | [], h => by simp at h
  | w :: vs, h => by
    unfold wipe
    by_cases e : i ∈ vs
    · rw [wipe_set e]
    · have hw : i = w := by simpa [e] using h
      subst hw
      have : ∀ (vs : List Nat), i ∉ vs → wipe (σ.set i (some v)) vs = (wipe σ vs).set i (some v) := by
        intro us
        induction us with
        | nil => intro _; rfl
        | cons u us ih =>
          intro hn
          have h1 : i ≠ u := fun z => hn (by simp [z])
          have h2 : i ∉ us := fun z => hn (by simp [z])
          unfold wipe
          rw [ih h2, List.set_comm _ _ h1]
      rw [this vs e, List.set_set]
theorem wipe_vsAll : ∀ (is : List Nat) {vs : List V} {σ : L2.St} {own : List Nat}, (∀ i ∈ is, i ∈ own) → wipe (vsAll is vs σ) own = wipe σ own
  | [], _, _, _, _ => by simp [vsAll]
  | i :: r, [], _, _, _ => by simp [vsAll]
  | i :: r, v :: vs, σ, own, h => by
    unfold vsAll
    rw [wipe_vsAll r (fun j hj => h j (List.mem_cons_of_mem _ hj)), wipe_set (h i List.mem_cons_self)]
theorem wipe_sT {g : Tg} {v : V} {vs : List V} {σ : L2.St} {own : List Nat} (h : ∀ i ∈ g.slots, i ∈ own) : wipe (sT g v vs σ) own = wipe σ own := by
  cases g with
  | nm i => exact wipe_set (h i (by simp [Tg.slots]))
  | tp is => exact wipe_vsAll is h
theorem Rep.wipe {K : PySem.W.Frag} {pn : Pn} {b : Nat} {F H : Hp} {σ : L2.St} {env : En} (r : Rep K pn F H σ env b) : ∀ (own : List Nat), Rep K pn F H (wipe σ own) (wipeE env own) b
  | [] => r
  | v :: vs => by
    have q := Rep.wipe r vs
    unfold L2.wipe wipeE
    have get : ∀ (j : Nat) (s : Sl), ((wipeE env vs).set v none)[j]? = some (some s) → j ≠ v ∧ (wipeE env vs)[j]? = some (some s) := fun j s h => by
      by_cases e : j = v
      · subst e
        have hl : j < (wipeE env vs).length := by have := (List.getElem?_eq_some_iff.mp h).1; simpa using this
        rw [List.getElem?_set_self hl] at h
        cases h
      · rw [List.getElem?_set_ne (Ne.symm e)] at h
        exact ⟨e, h⟩
    refine ⟨q.ok, by simp [q.len], fun j s h => ?_, fun j k a xs ys n h1 h2 h3 => ?_, q.tk⟩
    · obtain ⟨e, h⟩ := get j s h
      rw [List.getElem?_set_ne (Ne.symm e)]
      exact q.slot j s h
    · obtain ⟨e1, g1⟩ := get j _ h1
      rw [List.getElem?_set_ne (Ne.symm e1)] at h3
      rcases h2 with h2 | h2
      · obtain ⟨e2, g2⟩ := get k _ h2
        rw [List.getElem?_set_ne (Ne.symm e2)]
        exact q.apart j k a xs ys n g1 (.inl g2) h3
      · obtain ⟨e2, g2⟩ := get k _ h2
        rw [List.getElem?_set_ne (Ne.symm e2)]
        exact q.apart j k a xs ys n g1 (.inr g2) h3
theorem wipe_idem (σ : L2.St) : ∀ vs : List Nat, wipe (wipe σ vs) vs = wipe σ vs := by
  intro vs
  apply List.ext_getElem?
  intro i
  by_cases h : i ∈ vs
  · have key : ∀ (us : List Nat) (τ : L2.St), i ∈ us → (wipe τ us)[i]? = if i < τ.length then some none else none := by
      intro us
      induction us with
      | nil => intro τ hn; simp at hn
      | cons u us ih =>
        intro τ hn
        unfold wipe
        by_cases e : u = i
        · subst e
          rw [List.getElem?_set]
          simp [wipe_length]
        · have : i ∈ us := by
            rcases List.mem_cons.mp hn with z | z
            · exact (e z.symm).elim
            · exact z
          rw [List.getElem?_set_ne e, ih τ this]
    rw [key vs _ h, key vs _ h, wipe_length]
  · rw [wipe_out h]
section
variable {X : Cx} {elt tg iter : Expr} {ifs : List Expr} {scope : Scope} {own : List (Str × Nat)} {pos : Pos} {ti : WI} {g : Tg} {tt : WT} {te : WE}
theorem lc_read {iw : Bool} {K : PySem.W.Frag} {σ : L2.St} {H : Hp} {Q : VK} (hw : iw = true ∨ ∃ is, g = .tp is) (hin : ∀ i ∈ g.slots, i ∈ own.map (·.2)) (h : lF K (fLc ti g tt te (own.map (·.2))) σ H Q) : tLc (lI K true iw ti) (gT K g) (lT K tt) (lE K te) (own.map (·.2)) σ H Q := by
  obtain ⟨pn, F, env, b, P, rep, t, k⟩ := h
  refine ⟨pn, F, env, b, _, rep, t, fun items F1 H1 b1 J o1 x1 it t1 D hD => ?_⟩
  obtain ⟨hz, t1⟩ := t1
  have rep1 := rep.ext o1 x1
  have dPen : NotPen pn D ∧ NotCa pn D := o1.pen.apartN hD
  refine ⟨fun i m H => ∃ F2 b2 acc vs, Ok pn b2 F2 H ∧ Ext pn F1 H1 F2 H ∧ F2 D = none ∧ H D = some (.lst vs) ∧ RVs K F2 vs acc ∧ acc.length ≤ i ∧ i + m = items.length ∧ wLc g tt te (own.map (·.2)) env (items.drop i) b2 acc P,
    ⟨items.length, F1, b1, [], [], o1.own hD, .own hD, o1.free hD, upd_same, .nil, Nat.le_refl _, by omega, t1⟩, fun i m H hW => ?_⟩
  obtain ⟨F2, b2, acc, vs, o2, x2, fD, hDv, rvs, la, em, w⟩ := hW
  obtain ⟨go, stop, yld⟩ := it i F2 H b2 o2 x2
  by_cases hi : i < items.length
  · refine .inr ⟨go hi, fun H' => ∃ F2 b2 acc vs, Ok pn b2 F2 H' ∧ Ext pn F1 H1 F2 H' ∧ F2 D = none ∧ H' D = some (.lst vs) ∧ RVs K F2 vs acc ∧ acc.length ≤ i + 1 ∧ wLc g tt te (own.map (·.2)) env (items.drop (i + 1)) b2 acc P, fun H' hN => ?_, fun x H' hy => ?_⟩
    · obtain ⟨F3, b3, acc3, vs3, c1, c2, c3, c4, c5, c6, c7⟩ := hN
      exact ⟨m - 1, by omega, F3, b3, acc3, vs3, c1, c2, c3, c4, c5, c6, by omega, c7⟩
    · obtain ⟨F', d, hd, rv, o', x'⟩ := yld x H' hy hi
      rw [List.drop_eq_getElem_cons hi] at w
      have ed : items[i] = d := by
        rw [List.getElem?_eq_getElem hi] at hd
        exact Option.some.inj hd
      rw [ed] at w
      unfold wLc at w
      split at w
      · rename_i env' hset
        have rep2 : Rep K pn F' H' (wipe σ (own.map (·.2))) (wipeE env (own.map (·.2))) b2 := (rep1.ext o' (x2.trans x')).wipe _
        refine gT_run (F0 := F') (H0 := H') (env := wipeE env (own.map (·.2))) (b := b2) o' rv hw hset fun us _ c2 => ⟨(wipe_sT hin).trans (wipe_idem _ _), ?_⟩
        have rep3 := c2 rep2
        obtain ⟨hD', fD'⟩ := x'.keep D _ hDv fD dPen.1
        refine ⟨pn, F', env', b2, _, rep3, w, fun kc F4 H4 b4 o4 x4 t4 => ?_⟩
        obtain ⟨hD4, fD4⟩ := x4.keep D _ hD' fD' dPen.1
        cases kc with
        | true =>
          refine iteT ⟨pn, F4, env', b4, _, rep3.ext o4 x4, t4, fun y dy F5 H5 b5 o5 x5 ry t5 => ?_⟩
          obtain ⟨hD5, fD5⟩ := x5.keep D _ hD4 fD4 dPen.1
          have s5 := x'.fsub.trans (x4.fsub.trans x5.fsub)
          refine ⟨vs, hD5, by rw [rvs.len]; omega, F5, b5, acc ++ [dy], vs ++ [y], ?_, ?_, fD5, upd_same, (rvs.mono s5).app (.one ry), by simp; omega, t5⟩
          · refine ⟨fun c o q => ?_, ?_⟩
            · rw [upd_ne (fun z => by rw [z, fD5] at q; cases q)]; exact o5.sub c o q
            · exact o5.pen.wr dPen.1 dPen.2
          · have xx := x2.trans (x'.trans (x4.trans x5))
            refine ⟨xx.fsub, fun c o hc fc nc => ?_⟩
            obtain ⟨q1, q2⟩ := xx.keep c o hc fc nc
            exact ⟨by rw [upd_ne (ne_of_none hc hD)]; exact q1, q2⟩
        | false =>
          exact iteF ⟨F4, b4, acc, vs, o4, x2.trans (x'.trans x4), fD4, hD4, rvs.mono (x'.fsub.trans x4.fsub), by omega, t4⟩
      · exact w.elim
  · have e0 : items.drop i = [] := List.drop_of_length_le (by omega)
    rw [e0] at w
    refine .inl ⟨stop (by omega), k _ _ F2 H b2 o2 (x1.trans x2) ⟨D, vs, rfl, fD, dPen.1, dPen.2, hDv, rvs⟩ (fun a ea => ?_) w⟩
    cases ea
    exact x1.bk o1 hD
end
end Pu
namespace Pu
open PySem PySem.Spec PyProof.Rows L2
section
variable {X : Cx} {elt tg iter : Expr} {ifs : List Expr} {scope : Scope} {own : List (Str × Nat)} {pos : Pos} {ti : WI} {g : Tg} {tt : WT} {te : WE}
theorem ts_nil : ETs X [] wYes := ⟨fun pins s σ H Q I h => by
  obtain ⟨pn, F, env, b, P, rep, t, k⟩ := h
  exact pts_nil.run pins s σ H Q I (k true F H b rep.ok .refl t)⟩
theorem ts_one {c : Expr} {t : WT} (h : ET X c t) : ETs X [c] t := pts_one h
theorem f_lc {iw : Bool} (hc : X.calm = true) (hN : X.N.Nodup) (hi : PI X tg iter (lI X.K true iw ti)) (ok : BlkOk X.N X.env.scope scope own) (hin : ∀ i ∈ g.slots, i ∈ own.map (·.2))
    (hg : ∀ (s : Shared) (H : Hp) (C : Addr) (cl : List (Str × Addr)) (fp : List Addr), PGt (X.blk s H scope (compEnvC scope cl C X.env) fp) tg g) (ht : ∀ (s : Shared) (H : Hp) (C : Addr) (cl : List (Str × Addr)) (fp : List Addr), ETs (X.blk s H scope (compEnvC scope cl C X.env) fp) ifs tt)
    (he : ∀ (s : Shared) (H : Hp) (C : Addr) (cl : List (Str × Addr)) (fp : List Addr), EE (X.blk s H scope (compEnvC scope cl C X.env) fp) elt te) (hs : ∀ x, foldedSetIterable iter X.env x = pure x := by intro _; rfl) (hw : iw = true ∨ ∃ is, g = .tp is := by first | exact .inl rfl | exact .inr ⟨_, rfl⟩) :
    EF X (.ListComp elt [⟨tg, iter, ifs, 0⟩] scope pos) (fLc ti g tt te (own.map (·.2))) := PE.imp (pe_lc hc hN hi ok hg ht he hs) fun σ H Q h => lc_read hw hin h
theorem s_setLc {iw : Bool} {i : Nat} {y : Str} {py spos : Pos} (hc : X.calm = true) (hN : X.N.Nodup) (hy : X.N[i]? = some y) (hyl : X.env.scope.names.lookup y = some .local) (hsw : swapsWith (.ListComp elt [⟨tg, iter, ifs, 0⟩] scope pos) (some (.Name y py)) spos.line X.env = pure true)
    (hi : PI X tg iter (lI X.K true iw ti)) (ok : BlkOk X.N X.env.scope scope own) (hin : ∀ i ∈ g.slots, i ∈ own.map (·.2))
    (hg : ∀ (s : Shared) (H : Hp) (C : Addr) (cl : List (Str × Addr)) (fp : List Addr), PGt (X.blk s H scope (compEnvC scope cl C X.env) fp) tg g) (ht : ∀ (s : Shared) (H : Hp) (C : Addr) (cl : List (Str × Addr)) (fp : List Addr), ETs (X.blk s H scope (compEnvC scope cl C X.env) fp) ifs tt)
    (he : ∀ (s : Shared) (H : Hp) (C : Addr) (cl : List (Str × Addr)) (fp : List Addr), EE (X.blk s H scope (compEnvC scope cl C X.env) fp) elt te) (hs : ∀ x, foldedSetIterable iter X.env x = pure x := by intro _; rfl) (hw : iw = true ∨ ∃ is, g = .tp is := by first | exact .inl rfl | exact .inr ⟨_, rfl⟩) :
    SS X (.Assign [.Name y py] (.ListComp elt [⟨tg, iter, ifs, 0⟩] scope pos) spos) (sSet (fz (fLc ti g tt te (own.map (·.2)))) i) := PS.imp (ps_setLc hc hN hy hyl hsw hi ok hg ht he hs) fun D σ H ⟨pn, F0, H0, F, env, b, PD, rep, t, k, r⟩ => by
  refine lc_read hw hin ⟨pn, F, env, b, _, rep.rep, t, fun v d F' H' b' o x ow nw q => ?_⟩
  obtain ⟨a, vs, rfl, f, n, nc, ha, rv⟩ := ow
  have h0 := (rep.fresh nw a rfl).1
  have rep2 := rep.ext' o x
  have o2 : Ok pn b' (upd F' a (.lst vs)) H' := o.settle ha f n nc
  refine (k _ (upd F' a (.lst vs)) H' _ b' (RepS.setD ?_ (.lst upd_same (rv.mono (same_new f))))).1 q
  have x2 : Ext pn F H (upd F' a (.lst vs)) H' := ⟨x.fsub.trans (same_new f), fun c u hc fc npc => by
    obtain ⟨h1, f1⟩ := x.keep c u hc fc npc
    exact ⟨h1, by rw [upd_ne (fun z => by rw [z, nw a rfl] at hc; cases hc)]; exact f1⟩⟩
  exact rep.ext' o2 x2
end
def env0 (nn : Nat) (ss : List Sl) : En := ss.map some ++ List.replicate (nn - ss.length) none
def wDef (np nn : Nat) (t : WS) : WD := fun ss b P => ss.length = np ∧ t { nx := fun _ b' => P .none b', rt := P } (env0 nn ss) b
theorem args_at {K : PySem.W.Frag} {pn : Pn} {F H : Hp} : ∀ {vs : List V} {ss : List Sl} {i : Nat} {s : Sl}, ArgsAre K pn F H vs ss → ss[i]? = some s → ∃ v, vs[i]? = some v ∧ SlIs K pn F H v s ∧ s.isOwn = false
  | [], [], i, s, _, h => by simp at h
  | v :: vs, q :: ss, 0, s, ⟨h1, h2, _⟩, h => by simp at h; subst h; exact ⟨v, rfl, h1, h2⟩
  | v :: vs, q :: ss, i + 1, s, ⟨_, _, t⟩, h => by
    obtain ⟨u, h1, h2⟩ := args_at (i := i) (s := s) t (by simpa using h)
    exact ⟨u, by simpa using h1, h2⟩
  | [], _ :: _, _, _, h, _ => h.elim
  | _ :: _, [], _, _, h, _ => h.elim
theorem start_rep {K : PySem.W.Frag} {pn : Pn} {F H : Hp} {b : Nat} {N : List Str} {vs : List V} {ss : List Sl} (o : Ok pn b F H) (ar : ArgsAre K pn F H vs ss) : RepS K pn F H F H (L2.start N vs) (env0 N.length ss) b := by
  have el := ar.len
  have noL : ∀ (i : Nat) (s : Sl), s.isOwn = true → (env0 N.length ss)[i]? ≠ some (some s) := fun i s hs h => by
    unfold env0 at h
    by_cases hi : i < ss.length
    · rw [List.getElem?_append_left (by simpa using hi), List.getElem?_map, List.getElem?_eq_getElem hi] at h
      simp only [Option.map_some, Option.some.injEq] at h
      obtain ⟨v, _, _, q⟩ := args_at ar (List.getElem?_eq_getElem hi)
      rw [h, hs] at q
      cases q
    · rw [List.getElem?_append_right (by simpa using Nat.le_of_not_lt hi)] at h
      have := List.mem_of_getElem? h
      simp at this
  refine ⟨⟨o, by simp [L2.start, env0, el], fun i s h => ?_, fun i j a xs ys _ h1 _ _ => (noL i _ rfl h1).elim, ar.tk⟩, .refl, fun i a s hs h1 _ => (noL i s hs h1).elim⟩
  unfold env0 at h
  by_cases hi : i < ss.length
  · rw [List.getElem?_append_left (by simpa using hi), List.getElem?_map, List.getElem?_eq_getElem hi] at h
    simp only [Option.map_some, Option.some.injEq] at h
    obtain ⟨v, hv, q, _⟩ := args_at ar (List.getElem?_eq_getElem hi)
    rw [h] at q
    refine ⟨v, ?_, q⟩
    unfold L2.start
    rw [List.getElem?_append_left (by simpa [el] using hi), List.getElem?_map, hv]
    rfl
  · rw [List.getElem?_append_right (by simpa using Nat.le_of_not_lt hi)] at h
    have := List.mem_of_getElem? h
    simp at this
section
variable {P : Program} {w : World} {K : PySem.W.Frag} {mg : Str → Option Value} {base : Heap}
/-- a def keeps the promise that its body's reading is -/
theorem ok_fn {x qual : Str} {st : Stmt} {f : Addr} {fd : FuncData} {N ps : List Str} {k : Nat} {t : WS} (F : Fun K x qual st f fd) (S : FnScope N ps (defScope st))
    (body : ∀ (cdv : Value) (A : Around) (outer : List Env) (s : Shared) (H : Hp) (E : XK), Room k (A.deeper (envOfC qual (defScope st) s.heap.objs.size f cdv)) → SB (cxOf CX0 P w K mg base N qual (defScope st) f cdv A outer s H E).nox (defBody st) t) :
    FnOk P w K mg base CX0 (k + 1) f fd ps (spW K (wDef ps.length N.length t)) := by
  refine F.ok S (fun vs H Q E h => ?_) (fun cdv A outer s H vs Q E hr h => ?_)
  · obtain ⟨pn, F, ss, b, P, o, ar, ⟨hl, _⟩, _⟩ := h
    rw [ar.len, hl]
  · obtain ⟨pn, F, ss, b, PP, o, ar, ⟨hl, q⟩, kk⟩ := h
    exact ⟨lS K t, body cdv A outer s H E hr, pn, F, H, F, _, b, _, start_rep o ar, q,
      fun σ' F' H' env' b' rep' => ⟨fun q => kk .non .none F' H' b' rep'.rep.ok rep'.ext .non q, fun q => q, fun q => q⟩, ⟨fun v d F' H' b' o' x' rv q => kk v d F' H' b' o' x' rv q, fun _ _ _ _ _ _ _ _ _ q => q.elim⟩⟩
/-- another way to say what a def does -/
theorem spW.imp {f : Addr} {fd : FuncData} {ps : List Str} {k : Nat} {t u : WD} (G : FnOk P w K mg base CX0 k f fd ps (spW K t)) (h : ∀ ss b P, u ss b P → t ss b P) : FnOk P w K mg base CX0 k f fd ps (spW K u) :=
  G.imp fun vs H Q E ⟨pn, F, ss, b, P, o, ar, q, kk⟩ => ⟨pn, F, ss, b, P, o, ar, h ss b P q, kk⟩
end
end Pu
namespace Pu
open PySem PySem.Spec PyProof.Rows L2
theorem toFun {K : PySem.W.Frag} {x qual : Str} {st : Stmt} {f : Addr} {fd : FuncData} (F : FunD K x qual (defArgs st) (defBody st) (defScope st) [] [] f fd) : Fun K x qual st f fd := by
  obtain ⟨oc, od, dV, kV, doc, pm, an, cdv, ct, osl, rfl, lk, hcd, hD, _⟩ := F.ex
  rcases hD with ⟨_, rfl⟩ | ⟨e, _⟩
  · exact ⟨⟨oc, od, kV, doc, pm, an, cdv, ct, osl, rfl, lk, hcd⟩, F.kp⟩
  · exact absurd rfl e
section
variable {X : Cx} {a c e e2 : Expr} {pos : Pos} {ta tb tc : WE}
theorem e_one {op : BoolOp} (h : EE X a ta) : EE X (.BoolOp op [a] pos) ta := pe_one h
/-- a < b < c -/
def wCh (p q : P2) (ta tb tc : WE) : WE := fun env b P => ta env b fun x b1 => tb env b1 fun y b2 => p x y fun z => match z with
  | .bool k => if k = true then tc env b2 fun w b3 => q y w fun u => P u b3 else P (.bool false) b2
  | _ => False
def wOpL (p : PyData → PyData → (List PyData → Prop) → Prop) (ta tb : WE) : WF := fun env b P => ta env b fun x b1 => tb env b1 fun y b2 => p x y fun z => P z b2
def pCatL : PyData → PyData → (List PyData → Prop) → Prop
  | .list xs, .list ys, P => xs.length + ys.length ≤ sizeLine ∧ P (xs ++ ys)
  | _, _, _ => False
def pRepL : PyData → PyData → (List PyData → Prop) → Prop
  | .list xs, .int k, P => -(2 ^ 63) ≤ k ∧ k < 2 ^ 63 ∧ xs.length * k.toNat ≤ sizeLine ∧ P (List.replicate k.toNat xs).flatten
  | _, _, _ => False
/-- {} -/
def wD0 : WE := fun _ b P => P (.dict []) b
end
/-- a global that is a text, a number -/
def Cst (mg : Str → Option Value) (x : Str) (v : V) : Prop := ∃ u, mg x = some u ∧ RelV v u
theorem e_glo {X : Cx} {x : Str} {pos : Pos} {v : V} {d : PyData} (hg : Gl X x) (hm : Cst X.mg x v) (r : ∀ F, RV X.K F v d) (hd : (x == ("__debug__" : Str)) = false := by decide) : EE X (.Name x pos) (wC d) := by
  obtain ⟨u, h1, h2⟩ := hm
  exact e_c (pe_glob hg h1 h2 hd) r
end Pu
namespace Pu
open PySem PySem.Spec PyProof.Rows L2
abbrev pLt : P2 := pI (fun _ _ => True) fun i j => .bool (decide (i < j))
abbrev pLe : P2 := pI (fun _ _ => True) fun i j => .bool (decide (i ≤ j))
abbrev pGt : P2 := pI (fun _ _ => True) fun i j => .bool (decide (j < i))
abbrev pGe : P2 := pI (fun _ _ => True) fun i j => .bool (decide (j ≤ i))
abbrev pSub : P2 := pI (fun _ _ => True) fun i j => .int (i - j)
abbrev pMod : P2 := pI (fun _ j => 0 < j) fun i j => .int (i % j)
abbrev pPow : P2 := pI CPow fun i j => .int (i ^ j.toNat)
end Pu
namespace Pu
open PySem PySem.Spec PyProof.Rows L2
section
variable {X : Cx} {pins : List (Addr × Obj)} {σ : L2.St} {H : Hp} {s : Shared}
/-- the state behind a store to a plain local name -/
theorem stored {i : Nat} {x : Str} {v : V} {u : Value} {m : Str → Option Value} {h' : Heap} {tk : Nat} (I : Inv X pins σ H s) (nd : X.N.Nodup) (at_ : X.N[i]? = some x) (kl : X.env.scope.names.lookup x = some .local) (rv : RelV v u)
    (ns : s.heap.Ns X.env.locals m) (lk : ∀ (j : Nat) (y : Str) (w : V), X.N[j]? = some y → σ[j]? = some (some w) → Vis X.env.scope y → ∃ z, RelV w z ∧ Look X.env s.heap m y z)
    (ns' : h'.Ns X.env.locals (fun y => if y = x then some u else m y)) (sb : Heap.SameBut X.env.locals s.heap h') : Inv X pins (σ.set i (some v)) H { s with heap := h', toks := tk } := by
  have bound : i < σ.length := I.len.symm ▸ (List.getElem?_eq_some_iff.mp at_).1
  have old : ∀ b o, X.s_0.heap.get? b = some o → b ≠ X.env.locals := fun b o e => Nat.ne_of_lt (Nat.lt_of_lt_of_le (Heap.lt_size e) I.ok.above)
  obtain ⟨oL, _, _, atL, _⟩ := id ns
  have trackd : HOk X.prog X.w H h' := fun b ob e => by
    refine (I.hok b ob e).stay (fun c w' hc q => (sb.2 c fun z => ?_).trans q) (fun _ q => q) fun _ _ q => q
    subst z
    rcases hc with hc | hc
    · subst hc; rw [I.free] at e; cases e
    · rw [I.free] at hc; cases hc
  refine ⟨I.ok, I.os, I.bare, ⟨fun b o e n hb hx => (sb.2 b (old b o e)).trans (I.base.keep b o e n hb hx), fun b o e n hb hx => ?_, I.base.free, fun b o e hx => ?_, I.base.tups, I.base.frzs, I.base.tbls⟩, ⟨_, ns', fun j y w e1 e2 e3 => ?_⟩, fun y c e => ?_, I.free, I.freeC, fun p hp => ?_, trackd, by simpa using I.len⟩
  · obtain ⟨sl, e1⟩ := I.base.slot b o e n hb hx
    exact ⟨sl, (sb.2 b (old b o e)).trans e1⟩
  · obtain ⟨o', e1⟩ := I.base.there b o e hx
    exact ⟨o', (sb.2 b (old b o e)).trans e1⟩
  · by_cases hj : j = i
    · subst hj
      have ey : x = y := Option.some.inj (at_.symm.trans e1)
      subst ey
      rw [List.getElem?_set_self bound] at e2
      have ew : v = w := by simpa using e2
      subst ew
      exact ⟨u, rv, .inl ⟨kl, if_pos rfl⟩⟩
    · rw [List.getElem?_set_ne (Ne.symm hj)] at e2
      obtain ⟨z, rz, q⟩ := lk j y w e1 e2 e3
      have ne : y ≠ x := fun e => hj (nodup_ix nd e1 (e.symm ▸ at_))
      refine ⟨z, rz, ?_⟩
      rcases q with ⟨kk, e⟩ | ⟨kk, c, e, zz⟩
      · exact .inl ⟨kk, by simp [ne, e]⟩
      · exact .inr ⟨kk, c, e, zz.sameBut sb (I.cne y c e)⟩
  · obtain ⟨w', z⟩ := I.cell y c e
    exact ⟨w', z.sameBut sb (I.cne y c e)⟩
  · obtain ⟨e, n, ne, nf, d⟩ := I.pin p hp
    exact ⟨(sb.2 p.1 ne).trans e, n, ne, nf, d⟩
/-- what a name's evaluation gives, token and all -/
def Raw (X : Cx) (x : Str) (u : Value) (s : Shared) : Prop := ∀ (pos : Pos) (Q E : Value → Shared → Prop), Q u s → wpAny (model X.prog X.w) X.A (eval (.Name x pos) X.env) Q E s
/-- x = e, where e's value is a text whose token is known -/
theorem asg_raw {i : Nat} {x : Str} {e : Expr} {p1 p4 : Pos} {Q : Flow → Shared → Prop} (nd : X.N.Nodup) (at_ : X.N[i]? = some x) (kl : X.env.scope.names.lookup x = some .local) (hd : (x == ("__debug__" : Str)) = false)
    (h : wpAny (model X.prog X.w) X.A (eval e X.env) (fun u s1 => ∃ (z : Str) (t : Tok) (H1 : Hp), u = .str z t ∧ t ≠ 0 ∧ t < s1.toks ∧ Inv X pins σ H1 s1 ∧
      ∀ s2, Inv X pins (σ.set i (some (.str z))) H1 s2 → Raw X x (.str z t) s2 → t < s2.toks → Q .next s2) X.xe s)
    (hs : swapsWith e (some (.Name x p1)) p4.line X.env = pure false) : wpAny (model X.prog X.w) X.A (exec (.Assign [.Name x p1] e p4) X.env) Q X.xe s := by
  refine wpAny_Assign_Name (thn h fun u s1 q => ?_) hs
  obtain ⟨z, t, H1, rfl, t0, tl, I1, k⟩ := q
  obtain ⟨m, ns, lk⟩ := id I1.loc
  refine wpAny_storeName_local kl ns (fun h' ns' sb => ?_) (by rw [I1.ok.kind]; rfl)
  refine k _ (stored I1 nd at_ kl ⟨t, rfl⟩ ns lk ns' sb) (fun pos Q E q => ?_) (show t < s1.toks + 1 from Nat.lt_succ_of_lt tl)
  exact wpAny_Name (wpAny_loadName_local I1.ok.kind kl ns' (if_pos rfl) q) hd
/-- text.replace(x, '') -/
theorem strike_raw {ic : Nat} {c x : Str} {z y : Str} {t : Tok} {p1 p2 apos pos c0 : Pos} {j : Nat} {Q : VK} (hN : X.N[ic]? = some c) (hv : Vis X.env.scope c) (dc : (c == ("__debug__" : Str)) = false) (cc : (c == ("__classdict__" : Str)) = false)
    (I : Inv X pins σ H s) (hz : σ[ic]? = some (some (.str z))) (raw : Raw X x (.str y t) s) (t0 : t ≠ 0) (tl : t < s.toks) (hy : (y == Str.empty) = false) (len : z.length ≤ 16777216)
    (hst : starEach [.Name x p2, .Constant (.str "") j c0] X.env = [(false, eval (.Name x p2) X.env), (false, eval (.Constant (.str "") j c0) X.env)]) (hbase : attributeBase (.Name c p1) "replace" X.env (eval (.Name c p1) X.env) = eval (.Name c p1) X.env) (hline : (apos.endLine == pos.line) = true)
    (q : Q (.str (Txt.replace z y Str.empty)) H) : wpAny (model X.prog X.w) X.A (eval (.Call (.Attribute (.Name c p1) "replace" apos) [.Name x p2, .Constant (.str "") j c0] [] pos) X.env) (EP X pins σ Q) X.xe s := by
  refine PySem.Call_method2 hbase hst hline (raw_name hN hv I hz (fun v r => ?_) dc cc)
  obtain ⟨tz, rfl⟩ := r
  refine ⟨"str", _, F.plainAttrs_str, F.slot_str_replace, F.type_str_replace, typeIs_str _ _ _, (fun _ e => nomatch e), Calls.callWith_builtin rfl (Calls.evalArgs_plain (Calls.spliced_cons ?_))⟩
  refine raw _ _ _ (Calls.spliced_cons (Calls.Constant_str (Calls.spliced_nil ?_)))
  exact PySem.SC.replace t0 (fun e => absurd (e ▸ tl : t < 0) (Nat.not_lt_zero _)) (Nat.ne_of_lt tl) hy (by show z.length + (z.length + 1) * 0 ≤ 16777216; omega) fun t' k => ⟨.str (Txt.replace z y Str.empty), H, I.tok k, ⟨t', rfl⟩, q⟩
end
end Pu
namespace Pu
open PySem PySem.Spec PyProof.Rows L2
section
variable {X : Cx} {pins : List (Addr × Obj)} {σ : L2.St} {H : Hp} {s : Shared}
/-- c[take(pen, len(c))]: the sign's token is out -/
theorem pick_raw {ic ip : Nat} {c pen ft : Str} {z : Str} {vp : V} {f : Addr} {fd : FuncData} {ps : List Str} {k : Nat} {sp : Sp} {p1 p2 p3 p4 p5 p6 p7 p10 : Pos} {Q : VK}
    (hNc : X.N[ic]? = some c) (hvc : Vis X.env.scope c) (dc : (c == ("__debug__" : Str)) = false) (cc : (c == ("__classdict__" : Str)) = false)
    (hNp : X.N[ip]? = some pen) (hvp : Vis X.env.scope pen) (dp : (pen == ("__debug__" : Str)) = false) (cp : (pen == ("__classdict__" : Str)) = false)
    (G : FnOk X.prog X.w X.K X.mg X.base CX0 k f fd ps sp) (hr : Room k X.A) (hg : Gl X ft) (hm : X.mg ft = some (.ref f)) (hk : PySem.W.keepIn X.K (.ref f) = true) (hb : Binds X.K fd ps []) (df : (ft == ("__debug__" : Str)) = false)
    (hgl : Gl X "len") (hml : X.mg "len" = none)
    (he : starEach [.Name pen p3, .Call (.Name "len" p4) [.Name c p5] [] p6] X.env = (false, eval (.Name pen p3) X.env) :: starEach [.Call (.Name "len" p4) [.Name c p5] [] p6] X.env)
    (he2 : starEach [.Call (.Name "len" p4) [.Name c p5] [] p6] X.env = (false, eval (.Call (.Name "len" p4) [.Name c p5] [] p6) X.env) :: starEach [] X.env)
    (he3 : starEach [.Name c p5] X.env = (false, eval (.Name c p5) X.env) :: starEach [] X.env)
    (I : Inv X pins σ H s) (hz : σ[ic]? = some (some (.str z))) (hp : σ[ip]? = some (some vp)) (len : z.length ≤ 16777216)
    (h : sp [vp, .int z.length] H (fun y H1 => ∃ i cc, y = .int i ∧ atI z.cps.toList i = some cc ∧ Q (.str ⟨#[cc]⟩) H1) E0) :
    wpAny (model X.prog X.w) X.A (eval (.Subscript (.Name c p1) (.Call (.Name ft p2) [.Name pen p3, .Call (.Name "len" p4) [.Name c p5] [] p6] [] p7) p10) X.env)
      (fun u s1 => ∃ (y : Str) (t : Tok) (H1 : Hp), u = .str y t ∧ t ≠ 0 ∧ t < s1.toks ∧ Inv X pins σ H1 s1 ∧ (y == Str.empty) = false ∧ Q (.str y) H1) X.xe s := by
  have z63 : (sizeLine : Nat) < 2 ^ 63 := line63
  have zs : (16777216 : Nat) ≤ sizeLine := by decide
  refine Subscript_ (raw_name hNc hvc I hz (fun v r => ?_) dc cc)
  obtain ⟨tz, rfl⟩ := r
  refine wpAny_Call_Name_kw (ld_glob I hg hm ?_ df)
  refine PySem.W.callWith_K (h₀ := X.base) I.ok.mod.kin hk ?_ he (by rw [he2]; rfl)
  rw [he]
  show wpAny _ _ (spliced ((false, eval (.Name pen p3) X.env) :: backTo p7 (starEach [.Call (.Name "len" p4) [.Name c p5] [] p6] X.env))) _ _ s
  refine Calls.spliced_cons (raw_name hNp hvp I hp (fun vpen rpen => ?_) dp cp)
  rw [he2]
  show wpAny _ _ (spliced ((false, eval (.Call (.Name "len" p4) [.Name c p5] [] p6) X.env) :: backTo p7 (starEach [] X.env))) _ _ s
  refine Calls.spliced_cons (wpAny_Call_Name_kw (ld_blt I hgl hml PySem.boot_len ?_))
  refine PyProof.Rows.callWith_builtin1 ?_ he3 (by rfl)
  rw [he3]
  show wpAny _ _ (spliced ((false, eval (.Name c p5) X.env) :: backTo p6 (starEach [] X.env))) _ _ s
  refine Calls.spliced_cons (raw_name hNc hvc I hz (fun v2 r2 => ?_) dc cc)
  obtain ⟨tz2, rfl⟩ := r2
  refine Calls.spliced_nil ?_
  refine PyProof.Rows.len_str (by omega) ?_
  refine Calls.spliced_nil ?_
  have I2 : Inv X pins σ H { s with toks := s.toks + 1 + 1 } := I.tok _
  refine ⟨I2.kIn, ?_⟩
  refine wpAny_with_toks (n := 1) (show 1 ≤ s.toks + 1 + 1 from Nat.le_add_left 1 _) (wpAny_mono (run_fn G hr hb .nil pass0 (vs := [vp, .int z.length]) I2 (Paired.cons rpen (.cons ⟨_, rfl⟩ .nil)) h) (fun u s1 q h1 => ?_) fun _ _ e _ => e)
  obtain ⟨y, H1, I1, ry, i, d, rfl, hat, q⟩ := q
  obtain ⟨ti, rfl⟩ := ry
  obtain ⟨j, a1, a2, a3, a4, a5⟩ := atI_get hat
  have hl : z.cps.toList.length = z.length := by simp [Str.length]
  rw [hl] at a1 a4 a5
  refine tail_any (typeIs_str s1 z tz) slot_str_getitem.lookup (PyProof.Rows.getItem_str (c := d) ?_ (by rw [a1]; simpa using a2) ?_) rfl
  · have e1 : decide (i < -(2 ^ 63 : Int)) = false := decide_eq_false (by omega)
    have e2 : decide (i ≥ 2 ^ 63) = false := decide_eq_false (by omega)
    rw [e1, e2, Bool.or_false]
  · exact ⟨⟨#[d]⟩, s1.toks, H1, rfl, (fun e => absurd (e ▸ h1 : 1 ≤ 0) (by decide)), Nat.lt_succ_self _, I1.tok _, by rfl, q⟩
end
/-- right = c[take(pen, len(c))]; left = g(pen, c.replace(right, '')) -/
def sPick (ic ip ir il : Nat) (wt wg : WD) (u : WS) : WS := fun PD env b => match env[ic]?, env[ip]? with
  | some (some (.d (.str z))), some (some .p) => z.length ≤ 16777216 ∧ wt [.p, .d (.int z.length)] b fun y b1 => match y with
    | .int i => match atI z.cps.toList i with
      | some c => wg [.p, .d (.str (Txt.replace z ⟨#[c]⟩ Str.empty))] b1 fun d b2 => u PD ((env.set ir (some (.d (.str ⟨#[c]⟩)))).set il (some (.d d))) b2
      | none => False
    | _ => False
  | _, _ => False
section
variable {X : Cx}
theorem sb_pick {ic ip ir il : Nat} {c pen ft gt xr xl : Str} {f g : Addr} {fd gd : FuncData} {ps qs : List Str} {k k2 : Nat} {wt wg : WD} {p1 p2 p3 p4 p5 p6 p7 p8 p9 p10 q1 q2 q3 q4 q5 q6 q7 q8 q9 apos : Pos} {jn : Nat} {rest : List Stmt} {u : WS}
    (nd : X.N.Nodup) (hNc : X.N[ic]? = some c) (hvc : Vis X.env.scope c) (dc : (c == ("__debug__" : Str)) = false) (cc : (c == ("__classdict__" : Str)) = false)
    (hNp : X.N[ip]? = some pen) (hvp : Vis X.env.scope pen) (dp : (pen == ("__debug__" : Str)) = false) (cp : (pen == ("__classdict__" : Str)) = false)
    (hNr : X.N[ir]? = some xr) (hlr : X.env.scope.names.lookup xr = some .local) (dr : (xr == ("__debug__" : Str)) = false)
    (hNl : X.N[il]? = some xl) (hll : Loc X.env.scope xl) (hfl : X.fn xl = true ∨ X.env.scope.names.lookup xl = some .local) (ncr : ic ≠ ir) (npr : ip ≠ ir)
    (G : FnOk X.prog X.w X.K X.mg X.base CX0 k f fd ps (spW X.K wt)) (hr : Room k X.A) (hg : Gl X ft) (hm : X.mg ft = some (.ref f)) (hk : PySem.W.keepIn X.K (.ref f) = true) (hb : Binds X.K fd ps []) (df : (ft == ("__debug__" : Str)) = false)
    (G2 : FnOk X.prog X.w X.K X.mg X.base CX0 k2 g gd qs (spW X.K wg)) (hr2 : Room k2 X.A) (hg2 : Gl X gt) (hm2 : X.mg gt = some (.ref g)) (hk2 : PySem.W.keepIn X.K (.ref g) = true) (hb2 : Binds X.K gd qs []) (dg : (gt == ("__debug__" : Str)) = false)
    (hgl : Gl X "len") (hml : X.mg "len" = none)
    (he : starEach [.Name pen p3, .Call (.Name "len" p4) [.Name c p5] [] p6] X.env = (false, eval (.Name pen p3) X.env) :: starEach [.Call (.Name "len" p4) [.Name c p5] [] p6] X.env)
    (he2 : starEach [.Call (.Name "len" p4) [.Name c p5] [] p6] X.env = (false, eval (.Call (.Name "len" p4) [.Name c p5] [] p6) X.env) :: starEach [] X.env)
    (he3 : starEach [.Name c p5] X.env = (false, eval (.Name c p5) X.env) :: starEach [] X.env)
    (hs : swapsWith (.Subscript (.Name c p1) (.Call (.Name ft p2) [.Name pen p3, .Call (.Name "len" p4) [.Name c p5] [] p6] [] p7) p10) (some (.Name xr p8)) p9.line X.env = pure false)
    (hst : starEach [.Name xr q5, .Constant (.str "") jn q6] X.env = [(false, eval (.Name xr q5) X.env), (false, eval (.Constant (.str "") jn q6) X.env)]) (hbase : attributeBase (.Name c q4) "replace" X.env (eval (.Name c q4) X.env) = eval (.Name c q4) X.env) (hline : (apos.endLine == q7.line) = true)
    (hf : starEach [.Name pen q3, .Call (.Attribute (.Name c q4) "replace" apos) [.Name xr q5, .Constant (.str "") jn q6] [] q7] X.env = (false, eval (.Name pen q3) X.env) :: starEach [.Call (.Attribute (.Name c q4) "replace" apos) [.Name xr q5, .Constant (.str "") jn q6] [] q7] X.env)
    (hf2 : starEach [.Call (.Attribute (.Name c q4) "replace" apos) [.Name xr q5, .Constant (.str "") jn q6] [] q7] X.env = (false, eval (.Call (.Attribute (.Name c q4) "replace" apos) [.Name xr q5, .Constant (.str "") jn q6] [] q7) X.env) :: starEach [] X.env)
    (hs2 : swapsWith (.Call (.Name gt q2) [.Name pen q3, .Call (.Attribute (.Name c q4) "replace" apos) [.Name xr q5, .Constant (.str "") jn q6] [] q7] [] q9) (some (.Name xl q1)) q8.line X.env = pure false)
    (hrest : SB X rest u) :
    SB X (.Assign [.Name xr p8] (.Subscript (.Name c p1) (.Call (.Name ft p2) [.Name pen p3, .Call (.Name "len" p4) [.Name c p5] [] p6] [] p7) p10) p9 :: .Assign [.Name xl q1] (.Call (.Name gt q2) [.Name pen q3, .Call (.Attribute (.Name c q4) "replace" apos) [.Name xr q5, .Constant (.str "") jn q6] [] q7] [] q9) q8 :: rest) (sPick ic ip ir il wt wg u) := by
  refine ⟨fun pins s σ H D I h => ?_⟩
  obtain ⟨pn, F0, H0, F, env, b, PD, rep, t, kk, r⟩ := h
  unfold sPick at t
  split at t
  case h_2 => exact t.elim
  rename_i z hc hp
  obtain ⟨len, t⟩ := t
  obtain ⟨vc, hvz, rz⟩ := rep.rep.slot ic _ hc
  cases rz
  obtain ⟨vp, hvpv, pa, ca, epn, ep⟩ := rep.rep.slot ip _ hp
  refine wpAny_execs_cons (asg_raw (σ := σ) (pins := pins) nd hNr hlr dr (thn (pick_raw (Q := fun v H1 => ∃ d F1 b1, v = .str ⟨#[d]⟩ ∧ Ok pn b1 F1 H1 ∧ Ext pn F H F1 H1 ∧
      wg [.p, .d (.str (Txt.replace z ⟨#[d]⟩ Str.empty))] b1 fun e b2 => u PD ((env.set ir (some (.d (.str ⟨#[d]⟩)))).set il (some (.d e))) b2)
    hNc hvc dc cc hNp hvp dp cp G hr hg hm hk hb df hgl hml he he2 he3 I hvz hvpv len ?_) fun w s1 q => ?_) hs)
  · refine ⟨pn, F, [.p, .d (.int z.length)], b, _, rep.rep.ok, ⟨⟨pa, ca, epn, ep⟩, rfl, .int _, rfl, rep.rep.tk⟩, t, fun v d F1 H1 b1 o1 x1 rv q => ?_⟩
    cases rv with
    | int i =>
      simp only at q
      cases e : atI z.cps.toList i with
      | none => rw [e] at q; exact q.elim
      | some d => rw [e] at q; exact ⟨i, d, rfl, e, d, F1, b1, rfl, o1, x1, q⟩
    | _ => exact q.elim
  · obtain ⟨y, tk, H1, rfl, t0, tl, I1, ny, d, F1, b1, ey, o1, x1, q⟩ := q
    cases ey
    refine ⟨_, tk, H1, rfl, t0, tl, I1, fun s2 I2 raw tl2 => ?_⟩
    have rep1 := rep.ext' o1 x1
    have rep2 := rep1.setD (i := ir) (d := .str ⟨#[d]⟩) (RV.str _)
    have hz2 : (σ.set ir (some (V.str ⟨#[d]⟩)))[ic]? = some (some (V.str z)) := by rw [List.getElem?_set_ne (Ne.symm ncr)]; exact hvz
    have hp2 : (σ.set ir (some (V.str ⟨#[d]⟩)))[ip]? = some (some vp) := by rw [List.getElem?_set_ne (Ne.symm npr)]; exact hvpv
    refine wpAny_execs_cons (wpAny_Assign_Name (thn (Q := EP X pins (σ.set ir (some (V.str ⟨#[d]⟩))) fun v H2 => ∃ e F2 b2, RV X.K F2 v e ∧ Ok pn b2 F2 H2 ∧ Ext pn F1 H1 F2 H2 ∧ u PD ((env.set ir (some (.d (.str ⟨#[d]⟩)))).set il (some (.d e))) b2) ?_ fun w s3 q3 => ?_) hs2)
    · refine wpAny_Call_Name_kw (ld_glob I2 hg2 hm2 ?_ dg)
      refine PySem.W.callWith_K (h₀ := X.base) I2.ok.mod.kin hk2 ?_ hf (by rw [hf2]; rfl)
      rw [hf]
      show wpAny _ _ (spliced ((false, eval (.Name pen q3) X.env) :: backTo q9 (starEach [.Call (.Attribute (.Name c q4) "replace" apos) [.Name xr q5, .Constant (.str "") jn q6] [] q7] X.env))) _ _ s2
      refine Calls.spliced_cons (raw_name hNp hvp I2 hp2 (fun vpen rpen => ?_) dp cp)
      rw [hf2]
      show wpAny _ _ (spliced ((false, eval (.Call (.Attribute (.Name c q4) "replace" apos) [.Name xr q5, .Constant (.str "") jn q6] [] q7) X.env) :: backTo q9 (starEach [] X.env))) _ _ s2
      refine Calls.spliced_cons (thn (strike_raw (Q := fun v H2 => v = .str (Txt.replace z ⟨#[d]⟩ Str.empty) ∧ H2 = H1) hNc hvc dc cc I2 hz2 raw t0 tl2 ny len hst hbase hline ⟨rfl, rfl⟩) fun w s4 q4 => Calls.spliced_nil ?_)
      obtain ⟨v4, H4, I4, r4, rfl, rfl⟩ := q4
      refine ⟨I4.kIn, run_fn G2 hr2 hb2 .nil pass0 (vs := [vp, .str (Txt.replace z ⟨#[d]⟩ Str.empty)]) I4 (Paired.cons rpen (.cons r4 .nil)) ?_⟩
      exact ⟨pn, F1, [.p, .d (.str (Txt.replace z ⟨#[d]⟩ Str.empty))], b1, _, o1, ⟨⟨pa, ca, epn, ep⟩, rfl, .str _, rfl, rep.rep.tk⟩, q, fun v e F2 H2 b2 o2 x2 rv q => ⟨e, F2, b2, rv, o2, x2, q⟩⟩
    · obtain ⟨v, H3, I3, r3, e, F2, b2, rv, o2, x2, q⟩ := q3
      refine store_ok I3 nd hNl hll r3 (fun s5 I5 => ?_) hfl
      have rep3 := (rep2.ext' o2 x2).setD (i := il) rv
      exact hrest.run pins s5 _ H3 D I5 ⟨pn, F0, H0, F2, _, b2, PD, rep3, q, kk, r⟩
end
end Pu
namespace Pu
open PySem PySem.Spec PyProof.Rows L2
section
variable {X : Cx} {pos : Pos} {a c e : Expr} {ta tb tc : WE} {tf : WF} {x y z : Str} {px py pz pt : Pos} {kt k2 : Nat} {pt2 : Pos} {i j l : Nat}
/-- x, y = [..], e where a name is captured: a tuple is made and taken apart -/
def sUnpLD (i j : Nat) (t : WF) (u : WE) : WS := fun PD env b => t env b fun xs b1 => u env b1 fun y b2 => PD.nx ((env.set i (some (.l xs))).set j (some (.d y))) b2
def sUnpDL (i j : Nat) (t : WE) (u : WF) : WS := fun PD env b => t env b fun x b1 => u env b1 fun ys b2 => PD.nx ((env.set i (some (.d x))).set j (some (.l ys))) b2
variable {e1 e2 : Expr}
theorem s_unpLD (hc : X.calm = true) (g1 : PG X e1 (gName i)) (g2 : PG X e2 (gName j)) (ha : EF X a tf) (hb : EE X c tb)
    (hw : swappedStores [.Tuple [e1, e2] kt pt] (.Tuple [a, c] k2 pt2) X.env = pure none) (hs : swapsWithSole [.Tuple [e1, e2] kt pt] (.Tuple [a, c] k2 pt2) pos.line X.env = pure false := by rfl)
    (h0 : (assignEach [.Tuple [e1, e2] kt pt] X.env).map (·.2) = [assign (.Tuple [e1, e2] kt pt) X.env] := by rfl) (hn : (assignEach [e1, e2] X.env).length = 2 := by rfl) (hst : (assignEach [e1, e2] X.env).findIdx? (·.1) = none := by rfl)
    (a1 : (assignEach [e1, e2] X.env).map (·.2) = assign e1 X.env :: (assignEach [e2] X.env).map (·.2) := by rfl) (a2 : (assignEach [e2] X.env).map (·.2) = assign e2 X.env :: (assignEach [] X.env).map (·.2) := by rfl)
    (h1 : starEach [a, c] X.env = (false, eval a X.env) :: starEach [c] X.env := by rfl) (h2 : starEach [c] X.env = (false, eval c X.env) :: starEach [] X.env := by rfl) :
    SS X (.Assign [.Tuple [e1, e2] kt pt] (.Tuple [a, c] k2 pt2) pos) (sUnpLD i j tf tb) := PS.imp (ps_asg (pe_tup (pa_cons ha (pa_cons hb pa_nil h2) h1)) (pg_tup hc (pgs_cons g1 (pgs_cons g2 pgs_nil a2) a1) hn hst) hs hw h0) fun D σ H ⟨pn, F0, H0, F, env, b, PD, rep, t, k, r⟩ => by
  refine ⟨pn, F, env, b, _, rep.rep, t, fun v d F1 H1 b1 o1 x1 ow nw t1 => ?_⟩
  have rep1 := rep.ext' o1 x1
  refine ⟨pn, F1, env, b1, _, rep1.rep, t1, fun u e F2 H2 b2 o2 x2 ru t2 => ⟨(by show 2 ≤ sizeLine; decide), fun p hp => ?_⟩⟩
  refine ⟨p, _, rfl, SqT.of upd_same, rfl, v, [u], rfl, u, [], rfl, rfl, ?_⟩
  have rep2 := (rep1.ext' o2 x2).ext' (o2.own (o := .tup [v, u]) hp) (.own hp)
  have f1 := rep.fresh nw
  exact (k _ F2 _ _ b2 ((rep2.setL ((ow.ext x2).ext (.own hp)) f1).setD ru)).1 t2
theorem s_unpDL (hc : X.calm = true) (g1 : PG X e1 (gName i)) (g2 : PG X e2 (gName j)) (ha : EE X a ta) (hb : EF X c tf)
    (hw : swappedStores [.Tuple [e1, e2] kt pt] (.Tuple [a, c] k2 pt2) X.env = pure none) (hs : swapsWithSole [.Tuple [e1, e2] kt pt] (.Tuple [a, c] k2 pt2) pos.line X.env = pure false := by rfl)
    (h0 : (assignEach [.Tuple [e1, e2] kt pt] X.env).map (·.2) = [assign (.Tuple [e1, e2] kt pt) X.env] := by rfl) (hn : (assignEach [e1, e2] X.env).length = 2 := by rfl) (hst : (assignEach [e1, e2] X.env).findIdx? (·.1) = none := by rfl)
    (a1 : (assignEach [e1, e2] X.env).map (·.2) = assign e1 X.env :: (assignEach [e2] X.env).map (·.2) := by rfl) (a2 : (assignEach [e2] X.env).map (·.2) = assign e2 X.env :: (assignEach [] X.env).map (·.2) := by rfl)
    (h1 : starEach [a, c] X.env = (false, eval a X.env) :: starEach [c] X.env := by rfl) (h2 : starEach [c] X.env = (false, eval c X.env) :: starEach [] X.env := by rfl) :
    SS X (.Assign [.Tuple [e1, e2] kt pt] (.Tuple [a, c] k2 pt2) pos) (sUnpDL i j ta tf) := PS.imp (ps_asg (pe_tup (pa_cons ha (pa_cons hb pa_nil h2) h1)) (pg_tup hc (pgs_cons g1 (pgs_cons g2 pgs_nil a2) a1) hn hst) hs hw h0) fun D σ H ⟨pn, F0, H0, F, env, b, PD, rep, t, k, r⟩ => by
  refine ⟨pn, F, env, b, _, rep.rep, t, fun v d F1 H1 b1 o1 x1 rv t1 => ?_⟩
  have rep1 := rep.ext' o1 x1
  refine ⟨pn, F1, env, b1, _, rep1.rep, t1, fun u e F2 H2 b2 o2 x2 ow nw t2 => ⟨(by show 2 ≤ sizeLine; decide), fun p hp => ?_⟩⟩
  refine ⟨p, _, rfl, SqT.of upd_same, rfl, v, [u], rfl, u, [], rfl, rfl, ?_⟩
  have f1 := rep1.fresh nw
  have rep2 := ((rep1.ext' o2 x2).ext' (o2.own (o := .tup [v, u]) hp) (.own hp)).setD (i := i) (rv.mono x2.fsub)
  refine (k _ F2 _ _ b2 (rep2.setL (ow.ext (.own hp)) fun q eq => ⟨(f1 q eq).1, fun m ys h => ?_⟩)).1 t2
  have mi : m ≠ i := fun e => by
    subst e
    rcases h with h | h
    all_goals
      have hl : m < env.length := by have := (List.getElem?_eq_some_iff.mp h).1; simpa using this
      rw [List.getElem?_set_self hl] at h
      cases h
  rw [List.getElem?_set_ne (Ne.symm mi)] at h ⊢
  exact (f1 q eq).2 m ys h
end
end Pu
namespace Pu
open PySem PySem.Spec PyProof.Rows L2
section
variable {K : PySem.W.Frag} {pn : Pn} {F0 H0 F H : Hp} {σ : L2.St} {env : En} {b i : Nat} {xs : List PyData}
theorem RepS.fz (rep : RepS K pn F0 H0 F H σ env b) (h : env[i]? = some (some (.l xs))) : ∃ F', RepS K pn F0 H0 F' H σ (env.set i (some (.d (.list xs)))) b := by
  obtain ⟨v, h1, a, vs, rfl, fa, np, nc, ha, rv⟩ := rep.rep.slot i _ h
  have n0 := rep.own i a _ rfl h h1
  have hsm : Same F (upd F a (.lst vs)) := same_new fa
  have il : i < env.length := (List.getElem?_eq_some_iff.mp h).1
  have other : ∀ {j : Nat} {ys : List PyData} {v : V}, j ≠ i → (env[j]? = some (some (Sl.l ys)) ∨ env[j]? = some (some (Sl.r ys))) → σ[j]? = some (some v) → OwnL K pn F H v ys → OwnL K pn (upd F a (.lst vs)) H v ys := by
    intro j ys v hj he hs ho
    obtain ⟨c, ws, rfl, fc, npc, ncc, hc, rc⟩ := ho
    have : c ≠ a := fun z => rep.rep.apart i j a xs ys (Ne.symm hj) h he h1 (by rw [← z]; exact hs)
    exact ⟨c, ws, rfl, by rw [upd_ne this]; exact fc, npc, ncc, hc, rc.mono hsm⟩
  refine ⟨upd F a (.lst vs), ⟨rep.rep.ok.settle ha fa np nc, by rw [List.length_set]; exact rep.rep.len, fun j s hj => ?_, fun j k c ys zs hjk ej ek hs => ?_, rep.rep.tk⟩,
    ⟨rep.ext.fsub.trans hsm, fun c o hc fc npc => ?_⟩, fun j c ys hq ej hs => ?_⟩
  · by_cases hji : j = i
    · subst hji
      rw [List.getElem?_set_self il] at hj
      cases hj
      exact ⟨_, h1, .lst upd_same (rv.mono hsm)⟩
    · rw [List.getElem?_set_ne (Ne.symm hji)] at hj
      obtain ⟨v, q1, q2⟩ := rep.rep.slot j s hj
      refine ⟨v, q1, ?_⟩
      cases s with
      | d x => exact RV.mono hsm q2
      | l ys => exact other hji (.inl hj) q1 q2
      | r ys => exact other hji (.inr hj) q1 q2
      | p => exact q2
      | k ys =>
        obtain ⟨c, ws, e, fc, npc, ncc, hc, rc⟩ := q2
        exact ⟨c, ws, e, by rw [upd_ne (fun z => by rw [z, ha] at hc; exact nomatch hc)]; exact fc, npc, ncc, hc, rc.mono hsm⟩
  · by_cases hji : j = i
    · subst hji
      rw [List.getElem?_set_self il] at ej
      cases ej
    · rw [List.getElem?_set_ne (Ne.symm hji)] at ej
      refine rep.rep.apart j k c ys zs hjk ej ?_ hs
      by_cases hki : k = i
      · subst hki
        rw [List.getElem?_set_self il] at ek
        rcases ek with ek | ek <;> cases ek
      · rwa [List.getElem?_set_ne (Ne.symm hki)] at ek
  · obtain ⟨q1, q2⟩ := rep.ext.keep c o hc fc npc
    exact ⟨q1, by rw [upd_ne (fun z => by rw [z, n0] at hc; cases hc)]; exact q2⟩
  · by_cases hji : j = i
    · subst hji
      rw [List.getElem?_set_self il] at ej
      cases ej
      cases hq
    · rw [List.getElem?_set_ne (Ne.symm hji)] at ej
      exact rep.own j c ys hq ej hs
end
section
variable {X : Cx} {st : Stmt} {t : WS} {i : Nat}
theorem s_fz (h : SS X st t) : SS X st (sFz i t) := PS.imp h fun D σ H ⟨pn, F0, H0, F, env, b, PD, rep, w, k, r⟩ => by
  unfold sFz at w
  split at w
  · rename_i xs e
    obtain ⟨F', rep'⟩ := rep.fz e
    exact ⟨pn, F0, H0, F', _, b, PD, rep', w, k, r⟩
  · exact ⟨pn, F0, H0, F, env, b, PD, rep, w, k, r⟩
end
end Pu
namespace PuS
open PySem PySem.Spec PyProof.Rows L2
section
variable {P : Program} {w : World} {κ : Type} [DecidableEq κ] {kd : PySem.KeyKind P w κ}
/-- the key that a value is -/
noncomputable def kO (kd : PySem.KeyKind P w κ) (v : Value) : Option κ := open Classical in if h : ∃ k, kd.is k v = true then some h.choose else none
noncomputable abbrev kE (kd : PySem.KeyKind P w κ) (e : Int × Value) : Option κ := kO kd e.2
/-- the set at a: its members M, n of them -/
structure SG (kd : PySem.KeyKind P w κ) (o : Obj) (M : κ → Bool) (n : Nat) (es : Array (Int × Value)) (ep : Nat) (t : SetTable) : Prop where
  ex : o.ExactSet
  dt : o.data = .set es ep t
  el : ElemsOf kd es.toList
  nd : (es.toList.map (kE kd)).Nodup
  mem : ∀ k, M k = true ↔ some k ∈ es.toList.map (kE kd)
  few : es.size < scanBound
  fit : t.fits es.size = true
  num : es.size = n
  ris : Ris t.place.toList
  led : w.params.followText "set-order" = true ∨ t.led = true
def SetG (kd : PySem.KeyKind P w κ) (h : Heap) (a : Addr) (M : κ → Bool) (n : Nat) : Prop := ∃ o es ep t, h.get? a = some o ∧ SG kd o M n es ep t
variable {h h' : Heap} {a : Addr} {M : κ → Bool} {n : Nat}
theorem SetG.at' (R : SetG kd h a M n) (k : ∀ o, h.get? a = some o → h'.get? a = some o) : SetG kd h' a M n := let ⟨o, es, ep, t, ho, r⟩ := R; ⟨o, es, ep, t, k o ho, r⟩
end
end PuS
namespace PuS
open PySem PySem.Spec PyProof.Rows L2
/-- the keys, each once, in the order they come -/
def dstep {κ : Type} [DecidableEq κ] (acc : List κ) (k : κ) : List κ := if k ∈ acc then acc else acc ++ [k]
def dist {κ : Type} [DecidableEq κ] (l : List κ) : List κ := l.foldl dstep []
theorem dist_snoc {κ : Type} [DecidableEq κ] (l : List κ) (k : κ) : dist (l ++ [k]) = dstep (dist l) k := by
  unfold dist
  rw [List.foldl_append]
  rfl
theorem dist_len {κ : Type} [DecidableEq κ] (l : List κ) : (dist l).length ≤ l.length := by
  suffices h : ∀ (l acc : List κ), (l.foldl dstep acc).length ≤ acc.length + l.length by
    have := h l []
    simpa [dist] using this
  intro l
  induction l with
  | nil => intro acc; simp
  | cons x r ih =>
    intro acc
    refine Nat.le_trans (ih _) ?_
    unfold dstep
    split
    · simp only [List.length_cons]; omega
    · simp only [List.length_append, List.length_cons, List.length_nil]; omega
section
variable {P : Program} {w : World} {κ : Type} [DecidableEq κ] {kd : PySem.KeyKind P w κ} {A : Around} {E : Value → Shared → Prop} {s : Shared}
/-- the heap with a new set -/
abbrev nset (w : World) (s : Shared) : Heap := s.heap.push { cls := .type "set", dict := none, data := .set #[] 0 (.fresh 0 0 (!w.params.followText "set-order")) }
end
end PuS
namespace PuS
open PySem PySem.Spec PyProof.Rows L2
section
variable {P : Program} {w : World} {κ : Type} [DecidableEq κ] {kd : PySem.KeyKind P w κ} {A : Around} {E : Value → Shared → Prop} {s : Shared}
/-- values that are keys -/
def Keyed (kd : PySem.KeyKind P w κ) (vs : List Value) (ks : List κ) : Prop := vs.length = ks.length ∧ ∀ (i : Nat) (v : Value), vs[i]? = some v → ∃ k, ks[i]? = some k ∧ kd.is k v = true ∧ v.scannable = true
theorem Keyed.nil : Keyed kd [] [] := ⟨rfl, fun i v h => by simp at h⟩
theorem Keyed.cons {v : Value} {k : κ} {vs : List Value} {ks : List κ} (h : kd.is k v = true) (q : v.scannable = true) (r : Keyed kd vs ks) : Keyed kd (v :: vs) (k :: ks) :=
  ⟨congrArg (· + 1) r.1, fun i u e => by
    cases i with
    | zero => simp at e; subst e; exact ⟨k, rfl, h, q⟩
    | succ i => simpa using r.2 i u (by simpa using e)⟩
theorem nset_size : (nset w s).objs.size = s.heap.objs.size + 1 := by rw [Heap.size_push]
theorem nset_get {o : Obj} : ((nset w s).push o).get? s.heap.objs.size = some { cls := .type "set", dict := none, data := .set #[] 0 (.fresh 0 0 (!w.params.followText "set-order")) } :=
  Heap.get?_push_of_some _ (Heap.get?_push_size _ rfl)
end
end PuS
namespace PuS
open PySem PySem.Spec PyProof.Rows L2
abbrev sLt (x y : Str) : Prop := x.cps.toList < y.cps.toList
theorem sLt_irrefl (x : Str) : ¬ sLt x x := List.lt_irrefl _
theorem sLt_trans {x y z : Str} (h : sLt x y) (k : sLt y z) : sLt x z := List.lt_trans h k
theorem sLt_tri (x y : Str) : sLt x y ∨ x = y ∨ sLt y x := by
  by_cases h : sLt x y
  · exact .inl h
  · by_cases k : sLt y x
    · exact .inr (.inr k)
    · exact .inr (.inl (PySem.W.str_of_cps (List.le_antisymm (List.not_lt.mp k) (List.not_lt.mp h))))
/-- put in, in ascending order, once -/
def insS (z : Str) : List Str → List Str
  | [] => [z]
  | x :: r => if z = x then x :: r else if sLt z x then z :: x :: r else x :: insS z r
def asc (l : List Str) : List Str := l.foldr insS []
theorem mem_insS {z x : Str} : ∀ {l : List Str}, x ∈ insS z l ↔ x = z ∨ x ∈ l
  | [] => by simp [insS]
  | y :: r => by
    unfold insS
    split
    · rename_i e; subst e; simp
    · split
      · simp
      · rw [List.mem_cons, mem_insS (l := r), List.mem_cons]
        exact ⟨fun h => h.elim (fun a => .inr (.inl a)) fun b => b.elim .inl fun c => .inr (.inr c), fun h => h.elim (fun a => .inr (.inl a)) fun b => b.elim .inl fun c => .inr (.inr c)⟩
theorem insS_asc {z : Str} : ∀ {l : List Str}, l.Pairwise sLt → (insS z l).Pairwise sLt
  | [], _ => List.pairwise_singleton _ _
  | y :: r, h => by
    obtain ⟨h1, h2⟩ := List.pairwise_cons.mp h
    unfold insS
    split
    · exact h
    · split
      · rename_i _ lt
        exact List.pairwise_cons.mpr ⟨fun x hx => (List.mem_cons.mp hx).elim (fun e => e ▸ lt) fun hr => sLt_trans lt (h1 x hr), h⟩
      · rename_i ne nl
        refine List.pairwise_cons.mpr ⟨fun x hx => ?_, insS_asc h2⟩
        rcases mem_insS.mp hx with e | hr
        · subst e
          rcases sLt_tri y x with a | a | a
          · exact a
          · exact absurd a.symm ne
          · exact absurd a nl
        · exact h1 x hr
theorem asc_asc : ∀ (l : List Str), (asc l).Pairwise sLt
  | [] => List.Pairwise.nil
  | y :: r => insS_asc (asc_asc r)
theorem mem_dist {κ : Type} [DecidableEq κ] {x : κ} {l : List κ} : x ∈ dist l ↔ x ∈ l := by
  suffices h : ∀ (l acc : List κ), x ∈ l.foldl dstep acc ↔ x ∈ acc ∨ x ∈ l by
    have := h l []
    simpa [dist] using this
  intro l
  induction l with
  | nil => intro acc; simp
  | cons y r ih =>
    intro acc
    rw [List.foldl_cons, ih, List.mem_cons]
    have : x ∈ dstep acc y ↔ x ∈ acc ∨ x = y := by
      unfold dstep
      split
      · rename_i hy
        exact ⟨.inl, fun z => z.elim id fun e => e ▸ hy⟩
      · simp
    rw [this]
    exact ⟨fun h => h.elim (fun a => a.elim .inl fun b => .inr (.inl b)) fun c => .inr (.inr c), fun h => h.elim (fun a => .inl (.inl a)) fun b => b.elim (fun c => .inl (.inr c)) .inr⟩
theorem is_inr {P : Program} {w : World} {z : Str} {v : Value} (h : (mixKind P w).is (Sum.inr z) v = true) : ∃ tk, v = .str z tk := by
  rcases keyIs_shape (k := Sum.inr z) (v := v) h with ⟨i, tk, q, _⟩ | ⟨y, tk, q, q2⟩
  · cases q
  · injection q with q
    exact ⟨tk, by rw [q2, q]⟩
end PuS
namespace PuS
open PySem PySem.Spec PyProof.Rows L2 Pu
def ofStr (z : Str) : List Key := z.cps.toList.map fun c => Sum.inr ⟨#[c]⟩
theorem dist_nodup {κ : Type} [DecidableEq κ] (l : List κ) : (dist l).Nodup := by
  suffices h : ∀ (l acc : List κ), acc.Nodup → (l.foldl dstep acc).Nodup from h l [] List.nodup_nil
  intro l
  induction l with
  | nil => exact fun acc h => h
  | cons y r ih =>
    intro acc h
    refine ih _ ?_
    unfold dstep
    split
    · exact h
    · rename_i ny
      exact List.nodup_append.mpr ⟨h, by simp, fun a ha b hb e => ny (by rw [List.mem_singleton.mp hb] at e; exact e ▸ ha)⟩
end PuS
namespace Pu
open PySem PySem.Spec PyProof.Rows L2 PuS
def kD : Key → PyData
  | .inl i => .int i
  | .inr z => .str z
/-- the keys in a datum -/
def KeysD (x : PyData) (ks : List Key) : Prop := (∃ z, x = .str z ∧ ks = ofStr z) ∨ x = .list (ks.map kD) ∨ x = .tuple (ks.map kD)
def tI (n : List Int) : PyData := .tuple (n.map .int)
def pLenSet : P1 := fun x P => (∃ ks, KeysD x ks ∧ ks.length + 1 < scanBound ∧ P (.int (dist ks).length)) ∨ ∃ ns : List (List Int), x = .list (ns.map tI) ∧ ns.length < 64 ∧ P (.int (dist ns).length)
def pSortSet (x : PyData) (P : List PyData → Prop) : Prop := ∃ zs : List Str, KeysD x (zs.map Sum.inr) ∧ zs.length + 1 < scanBound ∧ P ((asc zs).map .str)
section
variable {K : PySem.W.Frag} {pn : Pn} {b : Nat} {F H : Hp} {v : V}
theorem rvs_keys : ∀ {ks : List Key} {vs : List V}, RVs K F vs (ks.map kD) → vs = ks.map kV
  | [], _, .nil => rfl
  | .inl i :: ks, _, .cons r t => by
    cases r
    rw [rvs_keys t]
    rfl
  | .inr z :: ks, _, .cons r t => by
    cases r
    rw [rvs_keys t]
    rfl
theorem rvs_ints : ∀ {ns : List Int} {vs : List V}, RVs K F vs (ns.map PyData.int) → vs = ns.map V.int
  | [], _, .nil => rfl
  | i :: ks, _, .cons r t => by
    cases r
    rw [rvs_ints t]
    rfl
end
theorem hu64 {k : Nat} {A : Around} (r : Room k A) : A.units + 64 < cLine := by
  have := r.un
  omega
end Pu
namespace Pu
open PySem PySem.Spec PyProof.Rows L2
/-- sysModules is there, and is no list -/
def sysB (g : Addr → Option Obj) : Bool := match g sysModules with
  | some ⟨.type c, _, _, _⟩ => !decide (c = "list")
  | _ => false
abbrev Tbl : Type := List (Str × List He.Dv)
def plB (K : PySem.W.Frag) (x : Str) : Bool := match K.lookup (He.ga K x) with
  | some o => o.dict.isNone
  | none => false
def obsC (fa : List He.Fa) (fn : List He.DefD) (tb : Tbl) (K : PySem.W.Frag) : Bool × He.AlD := (tb.all fun p => He.tupB K p.1 p.2 && plB K p.1, He.obsD fa fn K)
def SaysC (fa : List He.Fa) (fn : List He.DefD) (tb : Tbl) (K : PySem.W.Frag) : Prop := obsC fa fn tb K = (true, He.valD fn)
section
variable {fa : List He.Fa} {fn : List He.DefD} {tb : Tbl} {K : PySem.W.Frag}
theorem SaysC.d (c : SaysC fa fn tb K) : He.SaysD fa fn K := congrArg (fun z : Bool × He.AlD => z.2) c
theorem SaysC.fact (c : SaysC fa fn tb K) (i : Nat) {f : He.Fa} (h : fa[i]? = some f := by rfl) : f.ok K = true := c.d.fact i h
theorem SaysC.def_ (c : SaysC fa fn tb K) (i : Nat) {d : He.DefD} (h : fn[i]? = some d := by rfl) : ∃ fd, FunD K d.name d.qual d.params d.body d.scope (d.dvs K) (d.kws K) (He.fAd K d.at_) fd := c.d.def_ i h
theorem SaysC.tup (c : SaysC fa fn tb K) (i : Nat) {x : Str} {vs : List He.Dv} (h : tb[i]? = some (x, vs) := by rfl) (H : Hp) : PlT K H (He.ga K x) (vs.map (He.Dv.v K)) := by
  have b := Bool.and_eq_true_iff.mp (List.all_eq_true.mp (congrArg (fun z : Bool × He.AlD => z.1) c) (x, vs) (List.mem_of_getElem? h))
  have p : plB K x = true := b.2
  rcases He.tupB_ok b.1 (fun _ => none) with (e | ⟨_, e⟩) | ⟨o, its, n, h1, h2, h3, h4, h5⟩
  · cases e
  · cases e
  · refine .inr ⟨o, its, n, h1, h2, h3, h4, h5, ?_⟩
    unfold plB at p
    rw [h1] at p
    exact Option.isNone_iff_eq_none.mp p
end
end Pu
namespace Pu
open PySem PySem.Spec PyProof.Rows L2
open PuS in
/-- a dict of texts and whole numbers, its rows one by one -/
theorem reads_rows {P : Program} {w : World} {hp : Heap} : ∀ {kvs : List (Str × Key)} {vs : List (Key × Value)} {es : List DictEntry}, KV (kvs.map fun p => ((Sum.inr p.1 : Key), kV p.2)) vs → PySem.Pairs (mixKind P w) es vs →
    ReadsAll hp (es.map (·.key)) ((kvs.map fun p => (PyData.str p.1, atD p.2)).map (·.1)) [] ∧ ReadsAll hp (es.map (·.val)) ((kvs.map fun p => (PyData.str p.1, atD p.2)).map (·.2)) []
  | [], _, _, .nil, .nil => ⟨.nil, .nil⟩
  | (x, .inl i) :: kvs, _, _, .cons r kv, .cons hk hv pr => by
    obtain ⟨h1, h2⟩ := reads_rows kv pr
    obtain ⟨e1, rv⟩ := r
    rw [← e1] at hk
    obtain ⟨tk, ek⟩ := is_inr hk
    obtain ⟨ti, ei⟩ := rv
    refine ⟨?_, ?_⟩
    · rw [List.map_cons, ek]
      exact .cons (.str _ _) h1
    · rw [List.map_cons, hv, ei]
      exact .cons (.int _ _) h2
  | (x, .inr z) :: kvs, _, _, .cons r kv, .cons hk hv pr => by
    obtain ⟨h1, h2⟩ := reads_rows kv pr
    obtain ⟨e1, rv⟩ := r
    rw [← e1] at hk
    obtain ⟨tk, ek⟩ := is_inr hk
    obtain ⟨ti, ei⟩ := rv
    refine ⟨?_, ?_⟩
    · rw [List.map_cons, ek]
      exact .cons (.str _ _) h1
    · rw [List.map_cons, hv, ei]
      exact .cons (.str _ _) h2
/-- the object at sysModules is there, untracked -/
structure NoSys (X : Cx) : Prop where
  gd : X.A.guards = some []
  there : ∃ o, X.s_0.heap.get? sysModules = some o
  un : X.H_0 sysModules = none
  ex : X.ex = []
section
variable {X : Cx} {pins : List (Addr × Obj)} {σ : L2.St} {F H : Hp} {s : Shared}
theorem NoSys.now (N : NoSys X) (I : Inv X pins σ H s) : H sysModules = none := by
  obtain ⟨o, e⟩ := N.there
  exact I.base.free _ o e N.un (by rw [N.ex]; simp)
mutual
theorem reads_of (I : Inv X pins σ H s) (sub : Same F H) : ∀ {v : V} {d : PyData} {u : Value}, RV X.K F v d → RelV v u → ∃ as, Reads s.heap u d as ∧ (H sysModules = none → sysModules ∉ as)
  | _, _, _, .non, r => by
    cases r
    exact ⟨_, .none, by simp⟩
  | _, _, _, .bl b, r => by
    cases r
    exact ⟨_, .bool _, by simp⟩
  | _, _, _, .int i, r => by
    obtain ⟨t, rfl⟩ := r
    exact ⟨_, .int _ _, by simp⟩
  | _, _, _, .str x, r => by
    obtain ⟨t, rfl⟩ := r
    exact ⟨_, .str _ _, by simp⟩
  | _, _, _, .lst (a := a) h q, r => by
    cases r
    obtain ⟨its, rv, pl, _⟩ := I.list (SqL.of (K := X.K) (sub _ _ h))
    obtain ⟨o, ho, hc, n, hd⟩ := pl.isList
    obtain ⟨as, ra, hn⟩ := readsAll_of I sub q rv
    refine ⟨_, .list ho hc hd (by simpa using ra), fun ns z => ?_⟩
    rcases List.mem_cons.mp z with z | z
    · have := sub _ _ h
      rw [← z, ns] at this
      cases this
    · exact hn ns z
  | _, _, _, .tup h q, r => by
    cases r
    obtain ⟨its, rv, ⟨o, ho, hc, n, hd⟩, _⟩ := I.tuple (Same.tup sub h.sq)
    obtain ⟨as, ra, hn⟩ := readsAll_of I sub q rv
    exact ⟨_, .tuple ho hc hd (by simpa using ra), hn⟩
  | _, _, _, .dct (a := a) (kvs := kvs) h ek, r => by
    cases r
    subst ek
    obtain ⟨_, _, vs, kv, m⟩ := (show ObjOk X.prog X.w H s.heap a (.dK (kvs.map fun p => (Sum.inr p.1, kV p.2))) from I.hok a _ (sub _ _ h))
    obtain ⟨o, es, ep, ho, hx, hd, _, hp3, _⟩ := m
    obtain ⟨h1, h2⟩ := reads_rows kv hp3
    refine ⟨_, .dict ho hx.1 hd h1 h2, fun ns z => ?_⟩
    have z := List.mem_singleton.mp z
    have := sub _ _ h
    rw [← z, ns] at this
    cases this
theorem readsAll_of (I : Inv X pins σ H s) (sub : Same F H) : ∀ {vs : List V} {ds : List PyData} {us : List Value}, RVs X.K F vs ds → Vals vs us → ∃ as, ReadsAll s.heap us ds as ∧ (H sysModules = none → sysModules ∉ as)
  | _, _, _, .nil, .nil => ⟨_, .nil, by simp⟩
  | _, _, _, .cons r t, .cons u w => by
    obtain ⟨as, h1, n1⟩ := reads_of I sub r u
    obtain ⟨bs, h2, n2⟩ := readsAll_of I sub t w
    exact ⟨_, .cons h1 h2, fun ns z => (List.mem_append.mp z).elim (n1 ns) (n2 ns)⟩
end
end
theorem boot_repr : bootBuiltins "repr" = some (.builtin "repr") := by decide +kernel
end Pu
namespace Pu
open PySem PySem.Spec PyProof.Rows L2
def TopOk (P : Program) (w : World) (K : PySem.W.Frag) (mg : Str → Option Value) (base : Heap) (k : Nat) (f : Addr) (fd : FuncData) (ps : List Str) (sp : Sp) : Prop :=
  ∀ (A : Around) (outer : List Env) (s : Shared) (H : Hp) (args : Args) (us : List Value) (vs : List V) (Q : VK) (E : XK), Room k A → A.guards = some [] → (∃ o, s.heap.get? sysModules = some o) → H sysModules = none →
    Env0 P w K mg base A outer s H → BindsTo s fd args (ps.zip us) → Vals vs us → sp vs H Q E → codeAny (model P w) A (.call (.ref f) args) (CR CX0 outer P w H s Q E) s
section
variable {P : Program} {w : World} {K : PySem.W.Frag} {mg : Str → Option Value} {base : Heap}
theorem top_ok {x qual : Str} {st : Stmt} {f : Addr} {fd : FuncData} {N ps : List Str} {k : Nat} {sp : Sp} (F : Fun K x qual st f fd) (S : FnScope N ps (defScope st)) (len : ∀ vs H Q E, sp vs H Q E → vs.length = ps.length)
    (body : ∀ (cdv : Value) (A : Around) (outer : List Env) (s : Shared) (H : Hp) (vs : List V) (Q : VK) (E : XK), Room k (A.deeper (envOfC qual (defScope st) s.heap.objs.size f cdv)) → NoSys (cxOf CX0 P w K mg base N qual (defScope st) f cdv A outer s H E).nox → sp vs H Q E →
      ∃ t, PSs (cxOf CX0 P w K mg base N qual (defScope st) f cdv A outer s H E).nox (defBody st) t ∧ t { nx := fun _ H' => Q .non H', rt := Q } (start N vs) H) :
    TopOk P w K mg base (k + 1) f fd ps sp := by
  intro A outer s H args us vs Q E hr gd th un e0 hb r hs
  obtain ⟨oc, od, kV, doc, pm, an, cdv, ct, osl, rfl, lk, hcd⟩ := F.ex
  have KX : K.In s.heap := e0.mod.kin.keeps fun b o e => (e0.bs b o e).1
  have nl : s.heap.NoLimit := e0.mod.nolimit.keeps fun b o e => (e0.bs b o e).1
  have kinds : ∀ y ∈ ps.zip us, (defScope st).names.lookup y.1 = some .local ∨ ((defScope st).names.lookup y.1 = some .cell ∧ ((cellsFrom (s.heap.objs.size + 1) (defScope st).names []).lookup y.1).isSome = true) := fun y hy =>
    (S.par y.1 (List.of_mem_zip (a := y.1) (b := y.2) hy).1).imp id fun q => ⟨q, PySem.W.cellsFrom_some _ _ _ (.inl q)⟩
  refine codeAny_call_function hr.depth (KX _ _ lk) rfl S.co S.gen rfl (PySem.W.codeRec_of KX hcd) (hb _ _ _ _ (wpAny_newFunctionEnv_cells S.kind kinds fun env he s1 x => ?_))
  subst he
  obtain ⟨t, ht, hq⟩ := body cdv A outer s H vs Q E (hr.deeper _) ⟨gd, th, un, rfl⟩ hs
  have I := inv_start (CX := CX0) (E := E) S hr.hd e0 (len _ _ _ _ hs) r x
  have fin : ∀ {σ' : L2.St} {H' : Hp} {v : V} {u : Value} {s' : Shared}, Inv (cxOf CX0 P w K mg base N qual (defScope st) f cdv A outer s H E) [] σ' H' s' → RelV v u → Q v H' → CE outer P w H s Q u s' := fun J rv q => ⟨_, _, J.os, J.bare, J.base, J.hok, rv, q⟩
  refine ⟨nl.keeps x.toInCall.keep, codeAny_func (wpAny_mono (ht.nox.run [] s1 (start N vs) H _ I hq) (fun fl s' z => ?_) fun e s' z => z)⟩
  cases fl with
  | ret u => obtain ⟨v, σ', H', J, rv, q⟩ := z; exact fin J rv q
  | next => obtain ⟨σ', H', J, q⟩ := z; exact fin (v := V.non) (u := Value.none) J rfl q
  | brk => obtain ⟨_, _, _, q⟩ := z; exact False.elim q
  | cont => obtain ⟨_, _, _, q⟩ := z; exact False.elim q
end
end Pu
namespace PySem
namespace SeqAt
open PySem
open MeetsSeq MeetsSeq2 MeetsSeq3 SeqRoads2
/-- a dict's object -/
def DictOb (h : Heap) (l : Addr) : Prop := ∃ es n dd sl, h.get? l = some { cls := .type "dict", dict := dd, data := .dict es n, slots := sl }
theorem dsub_none : isSubtype (.type "NoneType") (.type "dict") = pure false := by rw [isSubtype_type]; kernel_rfl
theorem dsup_none : isSubtype (.type "dict") (.type "NoneType") = pure false := by rw [isSubtype_type]; kernel_rfl
theorem dict_no_none (l : Addr) (es : Array DictEntry) (n : Nat) (dd : Option Addr) (sl : Array (Option Value))  : Meets (Builtin.«dict.__eq__» ⟨[.ref l, .none], []⟩) (fun _ R s => s.heap.get? l = some { cls := .type "dict", dict := dd, data := .dict es n, slots := sl } ∧ R (.ok (.ret .notImplemented)) s) :=
  .of_wp fun prog w A R s h => by
    obtain ⟨hp, g, d, tk, os⟩ := s
    obtain ⟨hl, h⟩ := h
    have f1 := dsub_none
    wp_walk using AutoSeq1.wpAny_loadPart' hl, wpAny_load hl
    exact ⟨_, rfl, h⟩
theorem none_no_dict (l : Addr) (es : Array DictEntry) (n : Nat) (dd : Option Addr) (sl : Array (Option Value))  : Meets (Builtin.«NoneType.__eq__» ⟨[.none, .ref l], []⟩) (fun _ R s => s.heap.get? l = some { cls := .type "dict", dict := dd, data := .dict es n, slots := sl } ∧ R (.ok (.ret .notImplemented)) s) :=
  .of_wp fun prog w A R s h => by
    obtain ⟨hp, g, d, tk, os⟩ := s
    obtain ⟨hl, h⟩ := h
    wp_walk using AutoSeq1.wpAny_loadPart' hl, wpAny_load hl
    exact ⟨_, rfl, h⟩
theorem dsub_bool : isSubtype (.type "bool") (.type "dict") = pure false := by rw [isSubtype_type]; kernel_rfl
theorem dsup_bool : isSubtype (.type "dict") (.type "bool") = pure false := by rw [isSubtype_type]; kernel_rfl
theorem dict_no_bool (l : Addr) (es : Array DictEntry) (n : Nat) (dd : Option Addr) (sl : Array (Option Value)) (b : Bool) : Meets (Builtin.«dict.__eq__» ⟨[.ref l, (.bool b)], []⟩) (fun _ R s => s.heap.get? l = some { cls := .type "dict", dict := dd, data := .dict es n, slots := sl } ∧ R (.ok (.ret .notImplemented)) s) :=
  .of_wp fun prog w A R s h => by
    obtain ⟨hp, g, d, tk, os⟩ := s
    obtain ⟨hl, h⟩ := h
    have f1 := dsub_bool
    wp_walk using AutoSeq1.wpAny_loadPart' hl, wpAny_load hl
    exact ⟨_, rfl, h⟩
theorem bool_no_dict (l : Addr) (es : Array DictEntry) (n : Nat) (dd : Option Addr) (sl : Array (Option Value)) (b : Bool) : Meets (Builtin.«int.__eq__» ⟨[(.bool b), .ref l], []⟩) (fun _ R s => s.heap.get? l = some { cls := .type "dict", dict := dd, data := .dict es n, slots := sl } ∧ R (.ok (.ret .notImplemented)) s) :=
  .of_wp fun prog w A R s h => by
    obtain ⟨hp, g, d, tk, os⟩ := s
    obtain ⟨hl, h⟩ := h
    wp_walk using AutoSeq1.wpAny_loadPart' hl, wpAny_load hl
    exact ⟨_, rfl, h⟩
theorem dsub_int : isSubtype (.type "int") (.type "dict") = pure false := by rw [isSubtype_type]; kernel_rfl
theorem dsup_int : isSubtype (.type "dict") (.type "int") = pure false := by rw [isSubtype_type]; kernel_rfl
theorem dict_no_int (l : Addr) (es : Array DictEntry) (n : Nat) (dd : Option Addr) (sl : Array (Option Value)) (b : Int) (u : Tok) : Meets (Builtin.«dict.__eq__» ⟨[.ref l, (.int b u)], []⟩) (fun _ R s => s.heap.get? l = some { cls := .type "dict", dict := dd, data := .dict es n, slots := sl } ∧ R (.ok (.ret .notImplemented)) s) :=
  .of_wp fun prog w A R s h => by
    obtain ⟨hp, g, d, tk, os⟩ := s
    obtain ⟨hl, h⟩ := h
    have f1 := dsub_int
    wp_walk using AutoSeq1.wpAny_loadPart' hl, wpAny_load hl
    exact ⟨_, rfl, h⟩
theorem int_no_dict (l : Addr) (es : Array DictEntry) (n : Nat) (dd : Option Addr) (sl : Array (Option Value)) (b : Int) (u : Tok) : Meets (Builtin.«int.__eq__» ⟨[(.int b u), .ref l], []⟩) (fun _ R s => s.heap.get? l = some { cls := .type "dict", dict := dd, data := .dict es n, slots := sl } ∧ R (.ok (.ret .notImplemented)) s) :=
  .of_wp fun prog w A R s h => by
    obtain ⟨hp, g, d, tk, os⟩ := s
    obtain ⟨hl, h⟩ := h
    wp_walk using AutoSeq1.wpAny_loadPart' hl, wpAny_load hl
    exact ⟨_, rfl, h⟩
theorem dsub_str : isSubtype (.type "str") (.type "dict") = pure false := by rw [isSubtype_type]; kernel_rfl
theorem dsup_str : isSubtype (.type "dict") (.type "str") = pure false := by rw [isSubtype_type]; kernel_rfl
theorem dict_no_str (l : Addr) (es : Array DictEntry) (n : Nat) (dd : Option Addr) (sl : Array (Option Value)) (b : Str) (u : Tok) : Meets (Builtin.«dict.__eq__» ⟨[.ref l, (.str b u)], []⟩) (fun _ R s => s.heap.get? l = some { cls := .type "dict", dict := dd, data := .dict es n, slots := sl } ∧ R (.ok (.ret .notImplemented)) s) :=
  .of_wp fun prog w A R s h => by
    obtain ⟨hp, g, d, tk, os⟩ := s
    obtain ⟨hl, h⟩ := h
    have f1 := dsub_str
    wp_walk using AutoSeq1.wpAny_loadPart' hl, wpAny_load hl
    exact ⟨_, rfl, h⟩
theorem str_no_dict (l : Addr) (es : Array DictEntry) (n : Nat) (dd : Option Addr) (sl : Array (Option Value)) (b : Str) (u : Tok) : Meets (Builtin.«str.__eq__» ⟨[(.str b u), .ref l], []⟩) (fun _ R s => s.heap.get? l = some { cls := .type "dict", dict := dd, data := .dict es n, slots := sl } ∧ R (.ok (.ret .notImplemented)) s) :=
  .of_wp fun prog w A R s h => by
    obtain ⟨hp, g, d, tk, os⟩ := s
    obtain ⟨hl, h⟩ := h
    wp_walk using AutoSeq1.wpAny_loadPart' hl, wpAny_load hl
    exact ⟨_, rfl, h⟩
section
variable {A : Around} {s : Shared}
theorem RcAt.dict_none {l : Addr}  (hl : DictOb s.heap l) (hu : A.units < cLine) : RcAt A s (.ref l) .none false := fun prog w E Q h => by
  obtain ⟨es, n, dd, sl, ho⟩ := hl
  exact rc_eq_decline_or (k := false) ⟨_, ho, rfl⟩ rfl (by decide) dsub_none F.slot_dict_eq F.slot_NoneType_eq_refl
    (fun _ hq => call_meets F.slot_dict_eq ⟨_, ho, rfl⟩ F.entry_dict_eq (F.args_dict_eq_2 _ _) (dict_no_none l es n dd sl ) ⟨ho, hq⟩)
    (fun _ hq => call_meets F.slot_NoneType_eq_refl rfl F.entry_NoneType_eq (F.args_NoneType_eq_2 _ _) (none_no_dict l es n dd sl ) ⟨ho, hq⟩)
    (fun _ hq => wpAny_of_eq (rfl : isSame (.ref l) .none = pure false) hq) (.inr hu) h
theorem RcAt.none_dict {l : Addr}  (hl : DictOb s.heap l) (hu : A.units < cLine) : RcAt A s .none (.ref l) false := fun prog w E Q h => by
  obtain ⟨es, n, dd, sl, ho⟩ := hl
  exact rc_eq_decline_or (k := false) rfl ⟨_, ho, rfl⟩ (by decide) dsup_none F.slot_NoneType_eq F.slot_dict_eq_refl
    (fun _ hq => call_meets F.slot_NoneType_eq rfl F.entry_NoneType_eq (F.args_NoneType_eq_2 _ _) (none_no_dict l es n dd sl ) ⟨ho, hq⟩)
    (fun _ hq => call_meets F.slot_dict_eq_refl ⟨_, ho, rfl⟩ F.entry_dict_eq (F.args_dict_eq_2 _ _) (dict_no_none l es n dd sl ) ⟨ho, hq⟩)
    (fun _ hq => wpAny_of_eq (rfl : isSame .none (.ref l) = pure false) hq) (.inr hu) h
theorem EqAt.dict_none {l : Addr}  (hl : DictOb s.heap l) (hu : A.units < cLine) : EqAt A s (.ref l) .none false := fun prog w E Q h => by
  unfold eqBool
  refine wpAny_holding (wpAny_ite_split (fun hab => absurd (eq_of_beq hab) nofun) (fun _ => wpAny_bind (RcAt.dict_none  hl hu prog w E _ (wpAny_truthy_bool h))))
theorem EqAt.none_dict {l : Addr}  (hl : DictOb s.heap l) (hu : A.units < cLine) : EqAt A s .none (.ref l) false := fun prog w E Q h => by
  unfold eqBool
  refine wpAny_holding (wpAny_ite_split (fun hab => absurd (eq_of_beq hab) nofun) (fun _ => wpAny_bind (RcAt.none_dict  hl hu prog w E _ (wpAny_truthy_bool h))))
theorem RcAt.dict_bool {l : Addr} (b : Bool) (hl : DictOb s.heap l) (hu : A.units < cLine) : RcAt A s (.ref l) (.bool b) false := fun prog w E Q h => by
  obtain ⟨es, n, dd, sl, ho⟩ := hl
  exact rc_eq_decline_or (k := false) ⟨_, ho, rfl⟩ rfl (by decide) dsub_bool F.slot_dict_eq F.slot_bool_eq_refl
    (fun _ hq => call_meets F.slot_dict_eq ⟨_, ho, rfl⟩ F.entry_dict_eq (F.args_dict_eq_2 _ _) (dict_no_bool l es n dd sl b) ⟨ho, hq⟩)
    (fun _ hq => call_meets F.slot_bool_eq_refl rfl F.entry_int_eq (F.args_int_eq_2 _ _) (bool_no_dict l es n dd sl b) ⟨ho, hq⟩)
    (fun _ hq => wpAny_of_eq (rfl : isSame (.ref l) (.bool b) = pure false) hq) (.inr hu) h
theorem RcAt.bool_dict {l : Addr} (b : Bool) (hl : DictOb s.heap l) (hu : A.units < cLine) : RcAt A s (.bool b) (.ref l) false := fun prog w E Q h => by
  obtain ⟨es, n, dd, sl, ho⟩ := hl
  exact rc_eq_decline_or (k := false) rfl ⟨_, ho, rfl⟩ (by decide) dsup_bool F.slot_bool_eq F.slot_dict_eq_refl
    (fun _ hq => call_meets F.slot_bool_eq rfl F.entry_int_eq (F.args_int_eq_2 _ _) (bool_no_dict l es n dd sl b) ⟨ho, hq⟩)
    (fun _ hq => call_meets F.slot_dict_eq_refl ⟨_, ho, rfl⟩ F.entry_dict_eq (F.args_dict_eq_2 _ _) (dict_no_bool l es n dd sl b) ⟨ho, hq⟩)
    (fun _ hq => wpAny_of_eq (rfl : isSame (.bool b) (.ref l) = pure false) hq) (.inr hu) h
theorem EqAt.dict_bool {l : Addr} (b : Bool) (hl : DictOb s.heap l) (hu : A.units < cLine) : EqAt A s (.ref l) (.bool b) false := fun prog w E Q h => by
  unfold eqBool
  refine wpAny_holding (wpAny_ite_split (fun hab => absurd (eq_of_beq hab) nofun) (fun _ => wpAny_bind (RcAt.dict_bool b hl hu prog w E _ (wpAny_truthy_bool h))))
theorem EqAt.bool_dict {l : Addr} (b : Bool) (hl : DictOb s.heap l) (hu : A.units < cLine) : EqAt A s (.bool b) (.ref l) false := fun prog w E Q h => by
  unfold eqBool
  refine wpAny_holding (wpAny_ite_split (fun hab => absurd (eq_of_beq hab) nofun) (fun _ => wpAny_bind (RcAt.bool_dict b hl hu prog w E _ (wpAny_truthy_bool h))))
theorem RcAt.dict_int {l : Addr} (b : Int) (u : Tok) (hl : DictOb s.heap l) (hu : A.units < cLine) : RcAt A s (.ref l) (.int b u) false := fun prog w E Q h => by
  obtain ⟨es, n, dd, sl, ho⟩ := hl
  exact rc_eq_decline_or (k := false) ⟨_, ho, rfl⟩ (typeIs_int s b u) (by decide) dsub_int F.slot_dict_eq F.slot_int_eq_refl
    (fun _ hq => call_meets F.slot_dict_eq ⟨_, ho, rfl⟩ F.entry_dict_eq (F.args_dict_eq_2 _ _) (dict_no_int l es n dd sl b u) ⟨ho, hq⟩)
    (fun _ hq => call_meets F.slot_int_eq_refl (typeIs_int s b u) F.entry_int_eq (F.args_int_eq_2 _ _) (int_no_dict l es n dd sl b u) ⟨ho, hq⟩)
    (fun _ hq => wpAny_of_eq (rfl : isSame (.ref l) (.int b u) = pure false) hq) (.inr hu) h
theorem RcAt.int_dict {l : Addr} (b : Int) (u : Tok) (hl : DictOb s.heap l) (hu : A.units < cLine) : RcAt A s (.int b u) (.ref l) false := fun prog w E Q h => by
  obtain ⟨es, n, dd, sl, ho⟩ := hl
  exact rc_eq_decline_or (k := false) (typeIs_int s b u) ⟨_, ho, rfl⟩ (by decide) dsup_int F.slot_int_eq F.slot_dict_eq_refl
    (fun _ hq => call_meets F.slot_int_eq (typeIs_int s b u) F.entry_int_eq (F.args_int_eq_2 _ _) (int_no_dict l es n dd sl b u) ⟨ho, hq⟩)
    (fun _ hq => call_meets F.slot_dict_eq_refl ⟨_, ho, rfl⟩ F.entry_dict_eq (F.args_dict_eq_2 _ _) (dict_no_int l es n dd sl b u) ⟨ho, hq⟩)
    (fun _ hq => wpAny_of_eq (rfl : isSame (.int b u) (.ref l) = pure false) hq) (.inr hu) h
theorem EqAt.dict_int {l : Addr} (b : Int) (u : Tok) (hl : DictOb s.heap l) (hu : A.units < cLine) : EqAt A s (.ref l) (.int b u) false := fun prog w E Q h => by
  unfold eqBool
  refine wpAny_holding (wpAny_ite_split (fun hab => absurd (eq_of_beq hab) nofun) (fun _ => wpAny_bind (RcAt.dict_int b u hl hu prog w E _ (wpAny_truthy_bool h))))
theorem EqAt.int_dict {l : Addr} (b : Int) (u : Tok) (hl : DictOb s.heap l) (hu : A.units < cLine) : EqAt A s (.int b u) (.ref l) false := fun prog w E Q h => by
  unfold eqBool
  refine wpAny_holding (wpAny_ite_split (fun hab => absurd (eq_of_beq hab) nofun) (fun _ => wpAny_bind (RcAt.int_dict b u hl hu prog w E _ (wpAny_truthy_bool h))))
theorem RcAt.dict_str {l : Addr} (b : Str) (u : Tok) (hl : DictOb s.heap l) (hu : A.units < cLine) : RcAt A s (.ref l) (.str b u) false := fun prog w E Q h => by
  obtain ⟨es, n, dd, sl, ho⟩ := hl
  exact rc_eq_decline_or (k := false) ⟨_, ho, rfl⟩ (typeIs_str s b u) (by decide) dsub_str F.slot_dict_eq F.slot_str_eq_refl
    (fun _ hq => call_meets F.slot_dict_eq ⟨_, ho, rfl⟩ F.entry_dict_eq (F.args_dict_eq_2 _ _) (dict_no_str l es n dd sl b u) ⟨ho, hq⟩)
    (fun _ hq => call_meets F.slot_str_eq_refl (typeIs_str s b u) F.entry_str_eq (F.args_str_eq_2 _ _) (str_no_dict l es n dd sl b u) ⟨ho, hq⟩)
    (fun _ hq => wpAny_of_eq (rfl : isSame (.ref l) (.str b u) = pure false) hq) (.inr hu) h
theorem RcAt.str_dict {l : Addr} (b : Str) (u : Tok) (hl : DictOb s.heap l) (hu : A.units < cLine) : RcAt A s (.str b u) (.ref l) false := fun prog w E Q h => by
  obtain ⟨es, n, dd, sl, ho⟩ := hl
  exact rc_eq_decline_or (k := false) (typeIs_str s b u) ⟨_, ho, rfl⟩ (by decide) dsup_str F.slot_str_eq F.slot_dict_eq_refl
    (fun _ hq => call_meets F.slot_str_eq (typeIs_str s b u) F.entry_str_eq (F.args_str_eq_2 _ _) (str_no_dict l es n dd sl b u) ⟨ho, hq⟩)
    (fun _ hq => call_meets F.slot_dict_eq_refl ⟨_, ho, rfl⟩ F.entry_dict_eq (F.args_dict_eq_2 _ _) (dict_no_str l es n dd sl b u) ⟨ho, hq⟩)
    (fun _ hq => wpAny_of_eq (rfl : isSame (.str b u) (.ref l) = pure false) hq) (.inr hu) h
theorem EqAt.dict_str {l : Addr} (b : Str) (u : Tok) (hl : DictOb s.heap l) (hu : A.units < cLine) : EqAt A s (.ref l) (.str b u) false := fun prog w E Q h => by
  unfold eqBool
  refine wpAny_holding (wpAny_ite_split (fun hab => absurd (eq_of_beq hab) nofun) (fun _ => wpAny_bind (RcAt.dict_str b u hl hu prog w E _ (wpAny_truthy_bool h))))
theorem EqAt.str_dict {l : Addr} (b : Str) (u : Tok) (hl : DictOb s.heap l) (hu : A.units < cLine) : EqAt A s (.str b u) (.ref l) false := fun prog w E Q h => by
  unfold eqBool
  refine wpAny_holding (wpAny_ite_split (fun hab => absurd (eq_of_beq hab) nofun) (fun _ => wpAny_bind (RcAt.str_dict b u hl hu prog w E _ (wpAny_truthy_bool h))))
end
theorem dsub_list : isSubtype (.type "list") (.type "dict") = pure false := by rw [isSubtype_type]; kernel_rfl
theorem dsup_list : isSubtype (.type "dict") (.type "list") = pure false := by rw [isSubtype_type]; kernel_rfl
theorem dict_no_list (l : Addr) (es : Array DictEntry) (n : Nat) (dd : Option Addr) (sl : Array (Option Value)) (b : Addr) (items : Array Value) (n2 : Nat) (dd2 : Option Addr) (sl2 : Array (Option Value)) : Meets (Builtin.«dict.__eq__» ⟨[.ref l, .ref b], []⟩) (fun _ R s => s.heap.get? l = some { cls := .type "dict", dict := dd, data := .dict es n, slots := sl } ∧ s.heap.get? b = some { cls := .type "list", dict := dd2, data := .seq items n2, slots := sl2 } ∧ R (.ok (.ret .notImplemented)) s) :=
  .of_wp fun prog w A R s h => by
    obtain ⟨hp, g, d, tk, os⟩ := s
    obtain ⟨hl, hb, h⟩ := h
    have f1 := dsub_list
    wp_walk using AutoSeq1.wpAny_loadPart' hl, wpAny_load hl, AutoSeq1.wpAny_loadPart' hb, wpAny_load hb
    exact ⟨_, rfl, h⟩
theorem list_no_dict (l : Addr) (es : Array DictEntry) (n : Nat) (dd : Option Addr) (sl : Array (Option Value)) (b : Addr) (items : Array Value) (n2 : Nat) (dd2 : Option Addr) (sl2 : Array (Option Value)) : Meets (Builtin.«list.__eq__» ⟨[.ref b, .ref l], []⟩) (fun _ R s => s.heap.get? l = some { cls := .type "dict", dict := dd, data := .dict es n, slots := sl } ∧ s.heap.get? b = some { cls := .type "list", dict := dd2, data := .seq items n2, slots := sl2 } ∧ R (.ok (.ret .notImplemented)) s) :=
  .of_wp fun prog w A R s h => by
    obtain ⟨hp, g, d, tk, os⟩ := s
    obtain ⟨hl, hb, h⟩ := h
    have f1 := dsup_list
    wp_walk using AutoSeq1.wpAny_loadPart' hl, wpAny_load hl, AutoSeq1.wpAny_loadPart' hb, wpAny_load hb
    exact ⟨_, rfl, h⟩
theorem dsub_tuple : isSubtype (.type "tuple") (.type "dict") = pure false := by rw [isSubtype_type]; kernel_rfl
theorem dsup_tuple : isSubtype (.type "dict") (.type "tuple") = pure false := by rw [isSubtype_type]; kernel_rfl
theorem dict_no_tuple (l : Addr) (es : Array DictEntry) (n : Nat) (dd : Option Addr) (sl : Array (Option Value)) (b : Addr) (items : Array Value) (n2 : Nat) (dd2 : Option Addr) (sl2 : Array (Option Value)) : Meets (Builtin.«dict.__eq__» ⟨[.ref l, .ref b], []⟩) (fun _ R s => s.heap.get? l = some { cls := .type "dict", dict := dd, data := .dict es n, slots := sl } ∧ s.heap.get? b = some { cls := .type "tuple", dict := dd2, data := .seq items n2, slots := sl2 } ∧ R (.ok (.ret .notImplemented)) s) :=
  .of_wp fun prog w A R s h => by
    obtain ⟨hp, g, d, tk, os⟩ := s
    obtain ⟨hl, hb, h⟩ := h
    have f1 := dsub_tuple
    wp_walk using AutoSeq1.wpAny_loadPart' hl, wpAny_load hl, AutoSeq1.wpAny_loadPart' hb, wpAny_load hb
    exact ⟨_, rfl, h⟩
theorem tuple_no_dict (l : Addr) (es : Array DictEntry) (n : Nat) (dd : Option Addr) (sl : Array (Option Value)) (b : Addr) (items : Array Value) (n2 : Nat) (dd2 : Option Addr) (sl2 : Array (Option Value)) : Meets (Builtin.«tuple.__eq__» ⟨[.ref b, .ref l], []⟩) (fun _ R s => s.heap.get? l = some { cls := .type "dict", dict := dd, data := .dict es n, slots := sl } ∧ s.heap.get? b = some { cls := .type "tuple", dict := dd2, data := .seq items n2, slots := sl2 } ∧ R (.ok (.ret .notImplemented)) s) :=
  .of_wp fun prog w A R s h => by
    obtain ⟨hp, g, d, tk, os⟩ := s
    obtain ⟨hl, hb, h⟩ := h
    have f1 := dsup_tuple
    wp_walk using AutoSeq1.wpAny_loadPart' hl, wpAny_load hl, AutoSeq1.wpAny_loadPart' hb, wpAny_load hb
    exact ⟨_, rfl, h⟩
section
variable {A : Around} {s : Shared}
theorem ne_dict_list {l b : Addr} {items : Array Value} (hl : DictOb s.heap l) (hb : s.heap.IsList b items) : l ≠ b := fun e => by
  subst e
  obtain ⟨es, n, dd, sl, ho⟩ := hl
  obtain ⟨o2, ho2, hc2, _⟩ := hb
  rw [ho] at ho2
  cases ho2
  exact absurd hc2 (by simp)
theorem RcAt.dict_list {l b : Addr} {items : Array Value} (hl : DictOb s.heap l) (hb : s.heap.IsList b items) (hu : A.units < cLine) : RcAt A s (.ref l) (.ref b) false := fun prog w E Q h => by
  have hne := ne_dict_list hl hb
  obtain ⟨es, n, dd, sl, ho⟩ := hl
  obtain ⟨⟨cls2, dd2, data2, sl2⟩, ho2, hc2, n2, hd2⟩ := id hb
  simp only at hc2 hd2
  subst hc2 hd2
  exact rc_eq_decline_or (k := false) ⟨_, ho, rfl⟩ ⟨_, ho2, rfl⟩ (by decide) dsub_list F.slot_dict_eq F.slot_list_eq_refl
    (fun _ hq => call_meets F.slot_dict_eq ⟨_, ho, rfl⟩ F.entry_dict_eq (F.args_dict_eq_2 _ _) (dict_no_list l es n dd sl b items n2 dd2 sl2) ⟨ho, ho2, hq⟩)
    (fun _ hq => call_meets F.slot_list_eq_refl ⟨_, ho2, rfl⟩ F.entry_list_eq (F.args_list_eq_2 _ _) (list_no_dict l es n dd sl b items n2 dd2 sl2) ⟨ho, ho2, hq⟩)
    (fun _ hq => wpAny_isSame_ref_other' hne ho ho2 (by simp) hq) (.inr hu) h
theorem RcAt.list_dict {l b : Addr} {items : Array Value} (hl : DictOb s.heap l) (hb : s.heap.IsList b items) (hu : A.units < cLine) : RcAt A s (.ref b) (.ref l) false := fun prog w E Q h => by
  have hne := ne_dict_list hl hb
  obtain ⟨es, n, dd, sl, ho⟩ := hl
  obtain ⟨⟨cls2, dd2, data2, sl2⟩, ho2, hc2, n2, hd2⟩ := id hb
  simp only at hc2 hd2
  subst hc2 hd2
  exact rc_eq_decline_or (k := false) ⟨_, ho2, rfl⟩ ⟨_, ho, rfl⟩ (by decide) dsup_list F.slot_list_eq F.slot_dict_eq_refl
    (fun _ hq => call_meets F.slot_list_eq ⟨_, ho2, rfl⟩ F.entry_list_eq (F.args_list_eq_2 _ _) (list_no_dict l es n dd sl b items n2 dd2 sl2) ⟨ho, ho2, hq⟩)
    (fun _ hq => call_meets F.slot_dict_eq_refl ⟨_, ho, rfl⟩ F.entry_dict_eq (F.args_dict_eq_2 _ _) (dict_no_list l es n dd sl b items n2 dd2 sl2) ⟨ho, ho2, hq⟩)
    (fun _ hq => wpAny_isSame_ref_other' hne.symm ho2 ho (by simp) hq) (.inr hu) h
theorem EqAt.dict_list {l b : Addr} {items : Array Value} (hl : DictOb s.heap l) (hb : s.heap.IsList b items) (hu : A.units < cLine) : EqAt A s (.ref l) (.ref b) false := .of_refs (ne_dict_list hl hb) (.dict_list hl hb hu)
theorem EqAt.list_dict {l b : Addr} {items : Array Value} (hl : DictOb s.heap l) (hb : s.heap.IsList b items) (hu : A.units < cLine) : EqAt A s (.ref b) (.ref l) false := .of_refs (ne_dict_list hl hb).symm (.list_dict hl hb hu)
theorem ne_dict_tuple {l b : Addr} {items : Array Value} (hl : DictOb s.heap l) (hb : s.heap.IsTuple b items) : l ≠ b := fun e => by
  subst e
  obtain ⟨es, n, dd, sl, ho⟩ := hl
  obtain ⟨o2, ho2, hc2, _⟩ := hb
  rw [ho] at ho2
  cases ho2
  exact absurd hc2 (by simp)
theorem RcAt.dict_tuple {l b : Addr} {items : Array Value} (hl : DictOb s.heap l) (hb : s.heap.IsTuple b items) (hu : A.units < cLine) : RcAt A s (.ref l) (.ref b) false := fun prog w E Q h => by
  have hne := ne_dict_tuple hl hb
  obtain ⟨es, n, dd, sl, ho⟩ := hl
  obtain ⟨⟨cls2, dd2, data2, sl2⟩, ho2, hc2, n2, hd2⟩ := id hb
  simp only at hc2 hd2
  subst hc2 hd2
  exact rc_eq_decline_or (k := false) ⟨_, ho, rfl⟩ ⟨_, ho2, rfl⟩ (by decide) dsub_tuple F.slot_dict_eq F.slot_tuple_eq_refl
    (fun _ hq => call_meets F.slot_dict_eq ⟨_, ho, rfl⟩ F.entry_dict_eq (F.args_dict_eq_2 _ _) (dict_no_tuple l es n dd sl b items n2 dd2 sl2) ⟨ho, ho2, hq⟩)
    (fun _ hq => call_meets F.slot_tuple_eq_refl ⟨_, ho2, rfl⟩ F.entry_tuple_eq (F.args_tuple_eq_2 _ _) (tuple_no_dict l es n dd sl b items n2 dd2 sl2) ⟨ho, ho2, hq⟩)
    (fun _ hq => wpAny_isSame_ref_other hne ho ho2 (by simp) hq) (.inr hu) h
theorem RcAt.tuple_dict {l b : Addr} {items : Array Value} (hl : DictOb s.heap l) (hb : s.heap.IsTuple b items) (hu : A.units < cLine) : RcAt A s (.ref b) (.ref l) false := fun prog w E Q h => by
  have hne := ne_dict_tuple hl hb
  obtain ⟨es, n, dd, sl, ho⟩ := hl
  obtain ⟨⟨cls2, dd2, data2, sl2⟩, ho2, hc2, n2, hd2⟩ := id hb
  simp only at hc2 hd2
  subst hc2 hd2
  exact rc_eq_decline_or (k := false) ⟨_, ho2, rfl⟩ ⟨_, ho, rfl⟩ (by decide) dsup_tuple F.slot_tuple_eq F.slot_dict_eq_refl
    (fun _ hq => call_meets F.slot_tuple_eq ⟨_, ho2, rfl⟩ F.entry_tuple_eq (F.args_tuple_eq_2 _ _) (tuple_no_dict l es n dd sl b items n2 dd2 sl2) ⟨ho, ho2, hq⟩)
    (fun _ hq => call_meets F.slot_dict_eq_refl ⟨_, ho, rfl⟩ F.entry_dict_eq (F.args_dict_eq_2 _ _) (dict_no_tuple l es n dd sl b items n2 dd2 sl2) ⟨ho, ho2, hq⟩)
    (fun _ hq => wpAny_isSame_ref_other' hne.symm ho2 ho (by simp) hq) (.inr hu) h
theorem EqAt.dict_tuple {l b : Addr} {items : Array Value} (hl : DictOb s.heap l) (hb : s.heap.IsTuple b items) (hu : A.units < cLine) : EqAt A s (.ref l) (.ref b) false := .of_refs (ne_dict_tuple hl hb) (.dict_tuple hl hb hu)
theorem EqAt.tuple_dict {l b : Addr} {items : Array Value} (hl : DictOb s.heap l) (hb : s.heap.IsTuple b items) (hu : A.units < cLine) : EqAt A s (.ref b) (.ref l) false := .of_refs (ne_dict_tuple hl hb).symm (.tuple_dict hl hb hu)
end
end SeqAt
end PySem
namespace PySem
namespace SeqAt
open PySem
mutual
def dfree : PyData → Bool
  | .dict _ => false
  | .list xs => dfreeAll xs
  | .tuple xs => dfreeAll xs
  | _ => true
def dfreeAll : List PyData → Bool
  | [] => true
  | x :: xs => dfree x && dfreeAll xs
end
theorem DictOb.of {h : Heap} {l : Addr} {o : Obj} {es : Array DictEntry} {n : Nat} (h1 : h.get? l = some o) (h2 : o.cls = .type "dict") (h3 : o.data = .dict es n) : DictOb h l := by
  obtain ⟨c, d, dt, sl⟩ := o
  simp only at h2 h3
  subst h2 h3
  exact ⟨es, n, d, sl, h1⟩
mutual
theorem eqv_self : ∀ d : PyData, dfree d = true → PyData.eqv d d = true
  | .none, _ => rfl
  | .bool b, _ => by simp [PyData.eqv]
  | .int i, _ => by simp [PyData.eqv]
  | .str x, _ => by simp [PyData.eqv]
  | .list xs, h => by rw [PyData.eqv]; exact eqvAll_self xs h
  | .tuple xs, h => by rw [PyData.eqv]; exact eqvAll_self xs h
  | .dict _, h => by cases h
theorem eqvAll_self : ∀ xs : List PyData, dfreeAll xs = true → PyData.eqvAll xs xs = true
  | [], _ => rfl
  | x :: xs, h => by
    have h' : dfree x = true ∧ dfreeAll xs = true := by simpa [dfreeAll] using h
    rw [PyData.eqvAll, eqv_self x h'.1, eqvAll_self xs h'.2]; rfl
end
section
variable {h : Heap}
mutual
/-- one value is one datum, if one of the two is free of dicts -/
theorem reads_one : ∀ (d e : PyData) (v : Value) (as bs : List Addr), (dfree d = true ∨ dfree e = true) → Reads h v d as → Reads h v e bs → d = e
  | .none, _, _, _, _, _, ra, rb => by cases ra; cases rb; rfl
  | .bool _, _, _, _, _, _, ra, rb => by cases ra; cases rb; rfl
  | .int _, _, _, _, _, _, ra, rb => by cases ra; cases rb; rfl
  | .str _, _, _, _, _, _, ra, rb => by cases ra; cases rb; rfl
  | .list xs, _, _, _, _, f, ra, rb => by
    cases ra with
    | list h1 h2 h3 h4 =>
      cases rb with
      | list k1 k2 k3 k4 =>
        rw [h1] at k1; cases k1
        rw [h3] at k3; cases k3
        exact congrArg PyData.list (readsAll_one xs _ _ _ _ f h4 k4)
      | tuple k1 k2 k3 k4 => rw [h1] at k1; cases k1; rw [h2] at k2; simp at k2
      | dict k1 k2 k3 _ _ => rw [h1] at k1; cases k1; rw [h2] at k2; simp at k2
  | .tuple xs, _, _, _, _, f, ra, rb => by
    cases ra with
    | tuple h1 h2 h3 h4 =>
      cases rb with
      | tuple k1 k2 k3 k4 =>
        rw [h1] at k1; cases k1
        rw [h3] at k3; cases k3
        exact congrArg PyData.tuple (readsAll_one xs _ _ _ _ f h4 k4)
      | list k1 k2 k3 k4 => rw [h1] at k1; cases k1; rw [h2] at k2; simp at k2
      | dict k1 k2 k3 _ _ => rw [h1] at k1; cases k1; rw [h2] at k2; simp at k2
  | .dict kvs, _, _, _, _, f, ra, rb => by
    cases ra with
    | dict h1 h2 h3 h4 h5 =>
      cases rb with
      | tuple k1 k2 k3 k4 => rw [h1] at k1; cases k1; rw [h2] at k2; simp at k2
      | list k1 k2 k3 k4 => rw [h1] at k1; cases k1; rw [h2] at k2; simp at k2
      | dict k1 k2 k3 _ _ => rcases f with f | f <;> cases f
theorem readsAll_one : ∀ (xs ys : List PyData) (vs : List Value) (as bs : List Addr), (dfreeAll xs = true ∨ dfreeAll ys = true) → ReadsAll h vs xs as → ReadsAll h vs ys bs → xs = ys
  | [], _, _, _, _, _, ra, rb => by cases ra; cases rb; rfl
  | x :: xs, _, _, _, _, f, ra, rb => by
    cases ra with
    | cons r rs =>
      cases rb with
      | @cons _ _ y ys _ _ r' rs' =>
        have f1 : dfree x = true ∨ dfree y = true := f.imp (fun z => (Bool.and_eq_true_iff.mp z).1) fun z => (Bool.and_eq_true_iff.mp z).1
        have f2 : dfreeAll xs = true ∨ dfreeAll ys = true := f.imp (fun z => (Bool.and_eq_true_iff.mp z).2) fun z => (Bool.and_eq_true_iff.mp z).2
        rw [reads_one x _ _ _ _ f1 r r', readsAll_one xs _ _ _ _ f2 rs rs']
end
end
section
/-- two lists, two tuples, two dicts -/
def kin : PyData → PyData → Bool
  | .list _, .list _ => true
  | .tuple _, .tuple _ => true
  | .dict _, .dict _ => true
  | _, _ => false
theorem at_list {h : Heap} {a : Addr} {o : Obj} {vs : Array Value} {n : Nat} (e1 : h.get? a = some o) (e2 : o.cls = .type "list") (e3 : o.data = .seq vs n) : h.IsList a vs := ⟨_, e1, e2, _, e3⟩
theorem at_tuple {h : Heap} {a : Addr} {o : Obj} {vs : Array Value} {n : Nat} (e1 : h.get? a = some o) (e2 : o.cls = .type "tuple") (e3 : o.data = .seq vs n) : h.IsTuple a vs := ⟨_, e1, e2, _, e3⟩
variable {A : Around} {s : Shared} {v u : Value} {d e : PyData} {as bs : List Addr} {xs ys : List PyData}
theorem eqFlat (k : kin d e = false) (ra : Reads s.heap v d as) (rb : Reads s.heap u e bs) (lt : A.units < cLine) : EqAt A s v u (PyData.eqv d e) ∧ RcAt A s v u (PyData.eqv d e) := by
  cases ra with
  | none => cases rb with
    | none => exact ⟨EqAt.same _, RcAt.none_none⟩
    | bool q1 => exact ⟨EqAt.none_bool q1, RcAt.none_bool q1⟩
    | int q1 q2 => exact ⟨EqAt.none_int q1 q2, RcAt.none_int q1 q2⟩
    | str q1 q2 => exact ⟨EqAt.none_str q1 q2, RcAt.none_str q1 q2⟩
    | list q1 q2 q3 _ => exact ⟨EqAt.none_list (at_list q1 q2 q3) lt, RcAt.none_list (at_list q1 q2 q3) lt⟩
    | tuple q1 q2 q3 _ => exact ⟨EqAt.none_tuple (at_tuple q1 q2 q3) lt, RcAt.none_tuple (at_tuple q1 q2 q3) lt⟩
    | dict q1 q2 q3 _ _ => exact ⟨EqAt.none_dict (DictOb.of q1 q2 q3) lt, RcAt.none_dict (DictOb.of q1 q2 q3) lt⟩
  | bool p1 => cases rb with
    | none => exact ⟨EqAt.bool_none p1, RcAt.bool_none p1⟩
    | bool q1 => exact ⟨EqAt.bool_bool p1 q1, RcAt.bool_bool p1 q1⟩
    | int q1 q2 => exact ⟨EqAt.bool_int p1 q1 q2, RcAt.bool_int p1 q1 q2⟩
    | str q1 q2 => exact ⟨EqAt.bool_str p1 q1 q2, RcAt.bool_str p1 q1 q2⟩
    | list q1 q2 q3 _ => exact ⟨EqAt.bool_list p1 (at_list q1 q2 q3) lt, RcAt.bool_list p1 (at_list q1 q2 q3) lt⟩
    | tuple q1 q2 q3 _ => exact ⟨EqAt.bool_tuple p1 (at_tuple q1 q2 q3) lt, RcAt.bool_tuple p1 (at_tuple q1 q2 q3) lt⟩
    | dict q1 q2 q3 _ _ => exact ⟨EqAt.bool_dict p1 (DictOb.of q1 q2 q3) lt, RcAt.bool_dict p1 (DictOb.of q1 q2 q3) lt⟩
  | int p1 p2 => cases rb with
    | none => exact ⟨EqAt.int_none p1 p2, RcAt.int_none p1 p2⟩
    | bool q1 => exact ⟨EqAt.int_bool p1 p2 q1, RcAt.int_bool p1 p2 q1⟩
    | int q1 q2 => exact ⟨EqAt.int_int p1 p2 q1 q2, RcAt.int_int p1 p2 q1 q2⟩
    | str q1 q2 => exact ⟨EqAt.int_str p1 p2 q1 q2, RcAt.int_str p1 p2 q1 q2⟩
    | list q1 q2 q3 _ => exact ⟨EqAt.int_list p1 p2 (at_list q1 q2 q3) lt, RcAt.int_list p1 p2 (at_list q1 q2 q3) lt⟩
    | tuple q1 q2 q3 _ => exact ⟨EqAt.int_tuple p1 p2 (at_tuple q1 q2 q3) lt, RcAt.int_tuple p1 p2 (at_tuple q1 q2 q3) lt⟩
    | dict q1 q2 q3 _ _ => exact ⟨EqAt.int_dict p1 p2 (DictOb.of q1 q2 q3) lt, RcAt.int_dict p1 p2 (DictOb.of q1 q2 q3) lt⟩
  | str p1 p2 => cases rb with
    | none => exact ⟨EqAt.str_none p1 p2, RcAt.str_none p1 p2⟩
    | bool q1 => exact ⟨EqAt.str_bool p1 p2 q1, RcAt.str_bool p1 p2 q1⟩
    | int q1 q2 => exact ⟨EqAt.str_int p1 p2 q1 q2, RcAt.str_int p1 p2 q1 q2⟩
    | str q1 q2 => exact ⟨EqAt.str_str p1 p2 q1 q2, RcAt.str_str p1 p2 q1 q2⟩
    | list q1 q2 q3 _ => exact ⟨EqAt.str_list p1 p2 (at_list q1 q2 q3) lt, RcAt.str_list p1 p2 (at_list q1 q2 q3) lt⟩
    | tuple q1 q2 q3 _ => exact ⟨EqAt.str_tuple p1 p2 (at_tuple q1 q2 q3) lt, RcAt.str_tuple p1 p2 (at_tuple q1 q2 q3) lt⟩
    | dict q1 q2 q3 _ _ => exact ⟨EqAt.str_dict p1 p2 (DictOb.of q1 q2 q3) lt, RcAt.str_dict p1 p2 (DictOb.of q1 q2 q3) lt⟩
  | list p1 p2 p3 _ => cases rb with
    | none => exact ⟨EqAt.list_none (at_list p1 p2 p3) lt, RcAt.list_none (at_list p1 p2 p3) lt⟩
    | bool q1 => exact ⟨EqAt.list_bool q1 (at_list p1 p2 p3) lt, RcAt.list_bool q1 (at_list p1 p2 p3) lt⟩
    | int q1 q2 => exact ⟨EqAt.list_int q1 q2 (at_list p1 p2 p3) lt, RcAt.list_int q1 q2 (at_list p1 p2 p3) lt⟩
    | str q1 q2 => exact ⟨EqAt.list_str q1 q2 (at_list p1 p2 p3) lt, RcAt.list_str q1 q2 (at_list p1 p2 p3) lt⟩
    | list q1 q2 q3 _ => cases k
    | tuple q1 q2 q3 _ => exact ⟨EqAt.list_tuple (at_list p1 p2 p3) (at_tuple q1 q2 q3) lt, RcAt.list_tuple (at_list p1 p2 p3) (at_tuple q1 q2 q3) lt⟩
    | dict q1 q2 q3 _ _ => exact ⟨EqAt.list_dict (DictOb.of q1 q2 q3) (at_list p1 p2 p3) lt, RcAt.list_dict (DictOb.of q1 q2 q3) (at_list p1 p2 p3) lt⟩
  | tuple p1 p2 p3 _ => cases rb with
    | none => exact ⟨EqAt.tuple_none (at_tuple p1 p2 p3) lt, RcAt.tuple_none (at_tuple p1 p2 p3) lt⟩
    | bool q1 => exact ⟨EqAt.tuple_bool q1 (at_tuple p1 p2 p3) lt, RcAt.tuple_bool q1 (at_tuple p1 p2 p3) lt⟩
    | int q1 q2 => exact ⟨EqAt.tuple_int q1 q2 (at_tuple p1 p2 p3) lt, RcAt.tuple_int q1 q2 (at_tuple p1 p2 p3) lt⟩
    | str q1 q2 => exact ⟨EqAt.tuple_str q1 q2 (at_tuple p1 p2 p3) lt, RcAt.tuple_str q1 q2 (at_tuple p1 p2 p3) lt⟩
    | list q1 q2 q3 _ => exact ⟨EqAt.tuple_list (at_tuple p1 p2 p3) (at_list q1 q2 q3) lt, RcAt.tuple_list (at_tuple p1 p2 p3) (at_list q1 q2 q3) lt⟩
    | tuple q1 q2 q3 _ => cases k
    | dict q1 q2 q3 _ _ => exact ⟨EqAt.tuple_dict (DictOb.of q1 q2 q3) (at_tuple p1 p2 p3) lt, RcAt.tuple_dict (DictOb.of q1 q2 q3) (at_tuple p1 p2 p3) lt⟩
  | dict p1 p2 p3 _ _ => cases rb with
    | none => exact ⟨EqAt.dict_none (DictOb.of p1 p2 p3) lt, RcAt.dict_none (DictOb.of p1 p2 p3) lt⟩
    | bool q1 => exact ⟨EqAt.dict_bool q1 (DictOb.of p1 p2 p3) lt, RcAt.dict_bool q1 (DictOb.of p1 p2 p3) lt⟩
    | int q1 q2 => exact ⟨EqAt.dict_int q1 q2 (DictOb.of p1 p2 p3) lt, RcAt.dict_int q1 q2 (DictOb.of p1 p2 p3) lt⟩
    | str q1 q2 => exact ⟨EqAt.dict_str q1 q2 (DictOb.of p1 p2 p3) lt, RcAt.dict_str q1 q2 (DictOb.of p1 p2 p3) lt⟩
    | list q1 q2 q3 _ => exact ⟨EqAt.dict_list (DictOb.of p1 p2 p3) (at_list q1 q2 q3) lt, RcAt.dict_list (DictOb.of p1 p2 p3) (at_list q1 q2 q3) lt⟩
    | tuple q1 q2 q3 _ => exact ⟨EqAt.dict_tuple (DictOb.of p1 p2 p3) (at_tuple q1 q2 q3) lt, RcAt.dict_tuple (DictOb.of p1 p2 p3) (at_tuple q1 q2 q3) lt⟩
    | dict q1 q2 q3 _ _ => cases k
/-- the items, pair by pair -/
abbrev Each (A : Around) (s : Shared) (xs ys : List PyData) : Prop := ∀ (vs us : List Value) (as bs : List Addr), ReadsAll s.heap vs xs as → ReadsAll s.heap us ys bs → ∀ (j : Nat) (h1 : j < vs.length) (h2 : j < us.length), EqAt A.in1 s vs[j] us[j] (pairEq xs ys j)
theorem sizes {h : Heap} {vs : Array Value} {xs : List PyData} {as : List Addr} (r : ReadsAll h vs.toList xs as) : vs.size = xs.length := by
  have z := ReadsAll.length _ _ _ r
  rwa [Array.length_toList] at z
theorem listRc (ra : Reads s.heap v (.list xs) as) (rb : Reads s.heap u (.list ys) bs) (lt : A.units < cLine) (each : Each A s xs ys) : RcAt A s v u (PyData.eqvAll xs ys) := by
  cases ra with
  | list a1 a2 a3 a4 =>
    cases rb with
    | list b1 b2 b3 b4 =>
      have z1 := sizes a4
      have z2 := sizes b4
      by_cases same : xs.length = ys.length
      · rw [← eqvAll_same_length same, ← z1]
        exact RcAt.lists (at_list a1 a2 a3) (at_list b1 b2 b3) (by omega) lt fun j j1 j2 => by
          have q := each _ _ _ _ a4 b4 j (by simpa using j1) (by simpa using j2)
          simpa using q
      · rw [eqvAll_other_length same]
        exact RcAt.lists_lengths (at_list a1 a2 a3) (at_list b1 b2 b3) (by simp; omega) lt
theorem tupRc (ra : Reads s.heap v (.tuple xs) as) (rb : Reads s.heap u (.tuple ys) bs) (lt : A.units < cLine) (each : Each A s xs ys) : RcAt A s v u (PyData.eqvAll xs ys) := by
  cases ra with
  | tuple a1 a2 a3 a4 =>
    cases rb with
    | tuple b1 b2 b3 b4 =>
      rw [← eqvAll_eq, ← sizes a4, ← sizes b4]
      exact RcAt.tuples (at_tuple a1 a2 a3) (at_tuple b1 b2 b3) lt fun j j1 j2 => by
        have q := each _ _ _ _ a4 b4 j (by simpa using j1) (by simpa using j2)
        simpa using q
/-- from the comparison to the test that looks at the address first -/
theorem rcEq (f : dfree d = true ∨ dfree e = true) (ra : Reads s.heap v d as) (rb : Reads s.heap u e bs) (h : ∃ a, v = .ref a) (k : ∃ a, u = .ref a) (rc : RcAt A s v u (PyData.eqv d e)) : EqAt A s v u (PyData.eqv d e) := by
  obtain ⟨a, rfl⟩ := h
  obtain ⟨b, rfl⟩ := k
  by_cases ab : a = b
  · subst ab
    obtain rfl := reads_one d e _ _ _ f ra rb
    rw [eqv_self d (f.elim id id)]
    exact EqAt.same _
  · exact EqAt.of_refs ab rc
theorem ref_list {h : Heap} (r : Reads h v (.list xs) as) : ∃ a, v = .ref a := by cases r; exact ⟨_, rfl⟩
theorem ref_tuple {h : Heap} (r : Reads h v (.tuple xs) as) : ∃ a, v = .ref a := by cases r; exact ⟨_, rfl⟩
end
mutual
theorem eqMix : ∀ (d e : PyData) (A : Around) (s : Shared) (v u : Value) (as bs : List Addr), (dfree d = true ∨ dfree e = true) → Reads s.heap v d as → Reads s.heap u e bs → A.units + min d.depth e.depth < cLine → EqAt A s v u (PyData.eqv d e)
  | .list xs, e, A, s, v, u, _, _, f, ra, rb, hu => by
    cases e with
    | list ys => exact rcEq f ra rb (ref_list ra) (ref_list rb) (listRc ra rb (room_here hu) fun vs us as bs q1 q2 => eqMixAll xs ys A.in1 s vs us as bs f q1 q2 (room_in hu))
    | _ => exact (eqFlat rfl ra rb (room_here hu)).1
  | .tuple xs, e, A, s, v, u, _, _, f, ra, rb, hu => by
    cases e with
    | tuple ys => exact rcEq f ra rb (ref_tuple ra) (ref_tuple rb) (tupRc ra rb (room_here hu) fun vs us as bs q1 q2 => eqMixAll xs ys A.in1 s vs us as bs f q1 q2 (room_in hu))
    | _ => exact (eqFlat rfl ra rb (room_here hu)).1
  | .dict kvs, e, A, s, v, u, _, _, f, ra, rb, hu => by
    cases e with
    | dict _ => rcases f with f | f <;> cases f
    | _ => exact (eqFlat rfl ra rb (room_here hu)).1
  | .none, e, _, _, _, _, _, _, _, ra, rb, hu => (eqFlat (by cases e <;> rfl) ra rb (room_here hu)).1
  | .bool _, e, _, _, _, _, _, _, _, ra, rb, hu => (eqFlat (by cases e <;> rfl) ra rb (room_here hu)).1
  | .int _, e, _, _, _, _, _, _, _, ra, rb, hu => (eqFlat (by cases e <;> rfl) ra rb (room_here hu)).1
  | .str _, e, _, _, _, _, _, _, _, ra, rb, hu => (eqFlat (by cases e <;> rfl) ra rb (room_here hu)).1
theorem eqMixAll : ∀ (xs ys : List PyData) (A : Around) (s : Shared) (vs us : List Value) (as bs : List Addr), (dfreeAll xs = true ∨ dfreeAll ys = true) → ReadsAll s.heap vs xs as → ReadsAll s.heap us ys bs →
    A.units + min (PyData.depthAll xs) (PyData.depthAll ys) < cLine → ∀ (j : Nat) (h1 : j < vs.length) (h2 : j < us.length), EqAt A s vs[j] us[j] (pairEq xs ys j)
  | [], _, _, _, _, _, _, _, _, .nil, _, _, _, h1, _ => nomatch h1
  | _ :: _, [], _, _, _, _, _, _, _, _, .nil, _, _, _, h2 => nomatch h2
  | x :: xs, y :: ys, A, s, _, _, _, _, f, .cons r rs, .cons r' rs', hu, j, h1, h2 => by
    have both : (dfree x = true ∨ dfree y = true) ∧ (dfreeAll xs = true ∨ dfreeAll ys = true) := by
      rcases f with z | z <;> obtain ⟨z1, z2⟩ := Bool.and_eq_true_iff.mp z
      · exact ⟨.inl z1, .inl z2⟩
      · exact ⟨.inr z1, .inr z2⟩
    match j with
    | 0 => exact eqMix x y A s _ _ _ _ both.1 r r' (room_head hu)
    | j + 1 => exact eqMixAll xs ys A s _ _ _ _ both.2 rs rs' (room_tail hu) j (Nat.lt_of_succ_lt_succ h1) (Nat.lt_of_succ_lt_succ h2)
end
theorem rcMix {d e : PyData} {A : Around} {s : Shared} {v u : Value} {as bs : List Addr} (f : dfree d = true ∨ dfree e = true) (ra : Reads s.heap v d as) (rb : Reads s.heap u e bs) (hu : A.units + min d.depth e.depth < cLine) : RcAt A s v u (PyData.eqv d e) := by
  cases k : kin d e with
  | false => exact (eqFlat k ra rb (room_here hu)).2
  | true =>
    cases d <;> cases e <;> first
      | (cases k; done)
      | exact listRc ra rb (room_here hu) fun vs us as bs q1 q2 => eqMixAll _ _ A.in1 s vs us as bs f q1 q2 (room_in hu)
      | exact tupRc ra rb (room_here hu) fun vs us as bs q1 q2 => eqMixAll _ _ A.in1 s vs us as bs f q1 q2 (room_in hu)
      | (rcases f with f | f <;> cases f)
/-- the datum that a value reads as -/
noncomputable def datOf (h : Heap) (v : Value) : PyData := open Classical in if e : ∃ d as, Reads h v d as then e.choose else .none
theorem datOf_eq {h : Heap} {v : Value} {d : PyData} {as : List Addr} (r : Reads h v d as) : datOf h v = d := by
  have e : ∃ d as, Reads h v d as := ⟨d, as, r⟩
  unfold datOf
  rw [dif_pos e]
  obtain ⟨bs, r2⟩ := e.choose_spec
  exact (r2.unique _ _ r).1
theorem datAll_eq {h : Heap} : ∀ {xs : List PyData} {vs : List Value} {as : List Addr}, ReadsAll h vs xs as → vs.map (datOf h) = xs
  | _, _, _, .nil => rfl
  | _, _, _, .cons r t => by rw [List.map_cons, datOf_eq r, datAll_eq t]
theorem reads_mem {h : Heap} : ∀ {xs : List PyData} {vs : List Value} {as : List Addr}, ReadsAll h vs xs as → ∀ y ∈ vs, ∃ d bs, d ∈ xs ∧ Reads h y d bs ∧ d.depth ≤ PyData.depthAll xs
  | _, _, _, .nil, y, hy => by cases hy
  | _, _, _, .cons (d := d) r t, y, hy => by
    rcases List.mem_cons.mp hy with rfl | hy
    · exact ⟨d, _, List.mem_cons_self .., r, Nat.le_max_left _ _⟩
    · obtain ⟨e, bs, h1, h2, h3⟩ := reads_mem t y hy
      exact ⟨e, bs, List.mem_cons_of_mem _ h1, h2, Nat.le_trans h3 (Nat.le_max_right _ _)⟩
theorem dfreeAll_mem : ∀ {xs : List PyData} {d : PyData}, dfreeAll xs = true → d ∈ xs → dfree d = true
  | _ :: _, _, h, m => by
    obtain ⟨h1, h2⟩ := Bool.and_eq_true_iff.mp (show (dfree _ && dfreeAll _) = true from h)
    rcases List.mem_cons.mp m with rfl | m
    · exact h1
    · exact dfreeAll_mem h2 m
theorem items_mix {A : Around} {s : Shared} {vs : Array Value} {xs : List PyData} {as bs : List Addr} {x : Value} {d : PyData} (f : dfreeAll xs = true ∨ dfree d = true) (rs : ReadsAll s.heap vs.toList xs as) (rx : Reads s.heap x d bs)
    (hu : A.units + 1 + min (PyData.depthAll xs) d.depth < cLine) : ∀ y, y ∈ vs → EqAt A.in1 s y x (PyData.eqv (datOf s.heap y) d) := fun y hy => by
  obtain ⟨e, cs, m, ry, le⟩ := reads_mem rs y (by simpa using hy)
  rw [datOf_eq ry]
  refine eqMix e d A.in1 s y x _ _ (f.imp (fun z => dfreeAll_mem z m) id) ry rx ?_
  have : min e.depth d.depth ≤ min (PyData.depthAll xs) d.depth := Nat.le_min.mpr ⟨Nat.le_trans (Nat.min_le_left _ _) le, Nat.min_le_right _ _⟩
  show A.units + 1 + min e.depth d.depth < cLine
  omega
theorem any_dat {h : Heap} {vs : Array Value} {xs : List PyData} {as : List Addr} {d : PyData} (rs : ReadsAll h vs.toList xs as) : vs.any (fun y => PyData.eqv (datOf h y) d) = xs.any (fun y => PyData.eqv y d) := by
  rw [← Array.any_toList, ← datAll_eq rs, List.any_map]
  rfl
end SeqAt
end PySem
namespace Pu
open PySem PySem.Spec PyProof.Rows L2 SeqAt
section
variable {X : Cx} {pins : List (Addr × Obj)} {σ : L2.St} {F H : Hp} {s : Shared} {pn : Pn} {b : Nat}
theorem BV.reads (I : Inv X pins σ H s) (o : Ok pn b F H) {v : V} {d : PyData} {u : Value} (h : BV X.K pn F H v d) (r : RelV v u) : ∃ as, Reads s.heap u d as := by
  rcases h with h | ⟨xs, rfl, a, vs, rfl, _, _, _, ha, q⟩
  · obtain ⟨as, h, _⟩ := reads_of I o.sub h r
    exact ⟨as, h⟩
  · cases r
    obtain ⟨its, rv, pl, _⟩ := I.list (SqL.of (K := X.K) ha)
    obtain ⟨ob, ho, hc, n, hd⟩ := pl.isList
    obtain ⟨as, ra, _⟩ := readsAll_of I o.sub q rv
    exact ⟨_, .list ho hc hd (by simpa using ra)⟩
end
def rEq2 (K : PySem.W.Frag) : R2 := fun x y H Q => ∃ (pn : Pn) (b : Nat) (F : Hp) (d e : PyData), Ok pn b F H ∧ BV K pn F H x d ∧ BV K pn F H y e ∧ (dfree d = true ∨ dfree e = true) ∧ min d.depth e.depth ≤ 60 ∧ Q (.bl (PyData.eqv d e)) H
def pEq2 : P2 := fun x y P => (dfree x = true ∨ dfree y = true) ∧ min x.depth y.depth ≤ 60 ∧ P (.bool (PyData.eqv x y))
theorem op_eq2 {X : Cx} (hu : X.A.units + 64 < cLine) : OpR X (compareOp .Eq) (rEq2 X.K) := by
  intro pins s σ H x y v u Q I rx ry ⟨pn, b, F, d, e, o, bx, by', f, dp, q⟩
  obtain ⟨as, r1⟩ := bx.reads I o rx
  obtain ⟨bs, r2⟩ := by'.reads I o ry
  exact rcMix f r1 r2 (by omega) X.prog X.w _ _ ⟨.bl _, H, I, rfl, q⟩
theorem o_eq2 {K : PySem.W.Frag} : Op2 K (rEq2 K) pEq2 := by
  intro pn b F H v u x y P Q o bv bu ⟨f, dp, q⟩ k
  exact ⟨pn, b, F, x, y, o, bv, bu, f, dp, k _ _ F H o .refl (.bl _) q⟩
/-- the items of a list, a tuple -/
def itemsD : PyData → Option (List PyData)
  | .list xs => some xs
  | .tuple xs => some xs
  | _ => none
def rIn2 (K : PySem.W.Frag) (neg : Bool) : R2 := fun x y H Q => ∃ (pn : Pn) (b : Nat) (F : Hp) (d e : PyData) (ds : List PyData), Ok pn b F H ∧ BV K pn F H x d ∧ BV K pn F H y e ∧ itemsD e = some ds ∧ (dfreeAll ds = true ∨ dfree d = true) ∧ min (PyData.depthAll ds) d.depth ≤ 60 ∧ Q (.bl (neg ^^ (ds.any fun z => PyData.eqv z d))) H
def pIn2 (neg : Bool) : P2
  | .str s, .str t, P => P (.bool (neg ^^ !(Builtin.Str.occurrences t s 0 t.length 1).isEmpty))
  | x, y, P => ∃ ds, itemsD y = some ds ∧ (dfreeAll ds = true ∨ dfree x = true) ∧ min (PyData.depthAll ds) x.depth ≤ 60 ∧ P (.bool (neg ^^ (ds.any fun z => PyData.eqv z x)))
section
variable {X : Cx}
theorem op_in2 (hu : X.A.units + 64 < cLine) : OpR X (compareOp .In) (rIn2 X.K false) := by
  intro pins s σ H x y v u Q I rx ry ⟨pn, b, F, d, e, ds, o, bx, by', ei, f, dp, q⟩
  obtain ⟨as, r1⟩ := bx.reads I o rx
  obtain ⟨bs, r2⟩ := by'.reads I o ry
  rw [Bool.false_xor] at q
  cases r2 with
  | list k1 k2 k3 k4 =>
    cases ei
    exact in_listAt _ ⟨_, k1, k2, _, k3⟩ (items_mix f k4 r1 (by omega)) (by rw [any_dat k4]; exact ⟨.bl _, H, I, rfl, q⟩)
  | tuple k1 k2 k3 k4 =>
    cases ei
    exact in_tupleAt _ ⟨_, k1, k2, _, k3⟩ (items_mix f k4 r1 (by omega)) (by rw [any_dat k4]; exact ⟨.bl _, H, I, rfl, q⟩)
  | _ => cases ei
theorem op_ni2 (hu : X.A.units + 64 < cLine) : OpR X (compareOp .NotIn) (rIn2 X.K true) := by
  intro pins s σ H x y v u Q I rx ry ⟨pn, b, F, d, e, ds, o, bx, by', ei, f, dp, q⟩
  obtain ⟨as, r1⟩ := bx.reads I o rx
  obtain ⟨bs, r2⟩ := by'.reads I o ry
  rw [Bool.true_xor] at q
  cases r2 with
  | list k1 k2 k3 k4 =>
    cases ei
    exact notIn_listAt _ ⟨_, k1, k2, _, k3⟩ (items_mix f k4 r1 (by omega)) (by rw [any_dat k4]; exact ⟨.bl _, H, I, rfl, q⟩)
  | tuple k1 k2 k3 k4 =>
    cases ei
    exact notIn_tupleAt _ ⟨_, k1, k2, _, k3⟩ (items_mix f k4 r1 (by omega)) (by rw [any_dat k4]; exact ⟨.bl _, H, I, rfl, q⟩)
  | _ => cases ei
def rInB (K : PySem.W.Frag) : R2 := fun x y H Q => (∃ i j, x = .str i ∧ y = .str j ∧ Q (.bl (!(Builtin.Str.occurrences j i 0 j.length 1).isEmpty)) H) ∨ rIn2 K false x y H Q
def rNiB (K : PySem.W.Frag) : R2 := fun x y H Q => (∃ i j, x = .str i ∧ y = .str j ∧ Q (.bl (!(!(Builtin.Str.occurrences j i 0 j.length 1).isEmpty))) H) ∨ rIn2 K true x y H Q
theorem opr_in2 (hu : X.A.units + 64 < cLine) : OpR X (compareOp .In) (rInB X.K) := OpR.or op_in_str (op_in2 hu)
theorem opr_ni2 (hu : X.A.units + 64 < cLine) : OpR X (compareOp .NotIn) (rNiB X.K) := OpR.or op_notIn_str (op_ni2 hu)
theorem pIn2_cases {neg : Bool} {x y : PyData} {P : PyData → Prop} (h : pIn2 neg x y P) : (∃ s t, x = .str s ∧ y = .str t ∧ P (.bool (neg ^^ !(Builtin.Str.occurrences t s 0 t.length 1).isEmpty))) ∨
    ∃ ds, itemsD y = some ds ∧ (dfreeAll ds = true ∨ dfree x = true) ∧ min (PyData.depthAll ds) x.depth ≤ 60 ∧ P (.bool (neg ^^ (ds.any fun z => PyData.eqv z x))) := by
  unfold pIn2 at h
  split at h
  · exact .inl ⟨_, _, rfl, rfl, h⟩
  · exact .inr h
theorem o_in2 {K : PySem.W.Frag} : Op2 K (rInB K) (pIn2 false) := by
  intro pn b F H v u x y P Q o bv bu q k
  rcases pIn2_cases q with ⟨s, t, rfl, rfl, q1⟩ | ⟨ds, e, f, dp, q1⟩
  · exact .inl ⟨s, t, bv.str, bu.str, k _ _ F H o .refl (.bl _) (by simpa using q1)⟩
  · exact .inr ⟨pn, b, F, x, y, ds, o, bv, bu, e, f, dp, k _ _ F H o .refl (.bl _) q1⟩
theorem o_ni2 {K : PySem.W.Frag} : Op2 K (rNiB K) (pIn2 true) := by
  intro pn b F H v u x y P Q o bv bu q k
  rcases pIn2_cases q with ⟨s, t, rfl, rfl, q1⟩ | ⟨ds, e, f, dp, q1⟩
  · exact .inl ⟨s, t, bv.str, bu.str, k _ _ F H o .refl (.bl _) (by simpa using q1)⟩
  · exact .inr ⟨pn, b, F, x, y, ds, o, bv, bu, e, f, dp, k _ _ F H o .refl (.bl _) q1⟩
end
end Pu
namespace Pu
open PySem PySem.Spec PyProof.Rows L2 SeqAt
abbrev VE := En → Option PyData
abbrev VT := En → Option Bool
abbrev VF := En → Option (List PyData)
abbrev VA := En → Option (List Sl)
abbrev VO := En → Option (Option Int)
abbrev HE (t : WE) (e : VE) : Prop := ∀ env b P r, e env = some r → P r b → t env b P
abbrev HT (t : WT) (e : VT) : Prop := ∀ env b P r, e env = some r → P r b → t env b P
abbrev HA (t : WA) (e : VA) : Prop := ∀ env b P r, e env = some r → P r b → t env b P
abbrev H2 (p : P2) (e : PyData → PyData → Option PyData) : Prop := ∀ x y P r, e x y = some r → P r → p x y P
abbrev H1 (p : P1) (e : PyData → Option PyData) : Prop := ∀ x P r, e x = some r → P r → p x P
abbrev H1L (p : PyData → (List PyData → Prop) → Prop) (e : PyData → Option (List PyData)) : Prop := ∀ x P r, e x = some r → P r → p x P
abbrev H2L (p : PyData → PyData → (List PyData → Prop) → Prop) (e : PyData → PyData → Option (List PyData)) : Prop := ∀ x y P r, e x y = some r → P r → p x y P
theorem bnd {α β : Type} {o : Option α} {f : α → Option β} {r : β} (h : o.bind f = some r) : ∃ x, o = some x ∧ f x = some r := Option.bind_eq_some_iff.mp h
def vVar (i : Nat) : VE := fun env => match env[i]? with
  | some (some (.d x)) => some x
  | some (some (.l xs)) => some (.list xs)
  | some (some (.r xs)) => some (.list xs)
  | _ => none
def vVal (i : Nat) : VE := fun env => match env[i]? with
  | some (some (.d x)) => some x
  | _ => none
def v1 (p : PyData → Option PyData) (a : VE) : VE := fun env => (a env).bind p
section
variable {ta tb tc : WE} {ea eb ec : VE} {tt tu : WT} {et eu : VT} {tf : WF} {ef : VF}
theorem h_var {i : Nat} : HE (wVar i) (vVar i) := fun env b P r h k => by
  unfold vVar at h; unfold wVar
  split at h <;> first | (cases h; simp_all; done) | (simp_all)
theorem h_val {i : Nat} : HE (wVal i) (vVal i) := fun env b P r h k => by
  unfold vVal at h; unfold wVal
  split at h <;> first | (cases h; simp_all; done) | (simp_all)
def eTru : PyData → Option Bool
  | .none => some false
  | .bool c => some c
  | .int i => some (i != 0)
  | .str z => if z.length ≤ sizeLine then some ((z.length : Int) != 0) else none
  | .list xs => some (!xs.isEmpty)
  | .tuple xs => some (!xs.isEmpty)
  | _ => none
theorem tru_run {x : PyData} {k : Bool} {P : Bool → Prop} (h : eTru x = some k) (q : P k) : pTru x P := by
  cases x with
  | str z =>
    have h : (if z.length ≤ sizeLine then some ((z.length : Int) != 0) else none) = some k := h
    by_cases c : z.length ≤ sizeLine
    · rw [if_pos c] at h
      cases h
      exact ⟨c, q⟩
    · rw [if_neg c] at h
      cases h
  | dict _ => cases h
  | _ => cases h; exact q
end
end Pu
namespace Pu
open PySem PySem.Spec PyProof.Rows L2 SeqAt
end Pu
namespace Pu
open PySem PySem.Spec PyProof.Rows L2 SeqAt PuS
def eAdd : PyData → PyData → Option PyData
  | .int i, .int j => some (.int (i + j))
  | .str s, .str t => if s.length + t.length ≤ sizeLine then some (.str (s ++ t)) else none
  | .tuple xs, .tuple ys => if xs.length + ys.length ≤ sizeLine then some (.tuple (xs ++ ys)) else none
  | .list xs, .list ys => if xs.length + ys.length ≤ sizeLine then some (.list (xs ++ ys)) else none
  | _, _ => none
def eI (C : Int → Int → Bool) (g : Int → Int → PyData) : PyData → PyData → Option PyData
  | .int i, .int j => if C i j = true then some (g i j) else none
  | _, _ => none
def eEq : PyData → PyData → Option PyData := fun x y => if (dfree x || dfree y) && decide (min x.depth y.depth ≤ 60) then some (.bool (PyData.eqv x y)) else none
def eNe : PyData → PyData → Option PyData := fun x y => if SeqAt.shaped x && SeqAt.shaped y then some (.bool (!PyData.eqv x y)) else none
def eInL (neg : Bool) (x y : PyData) : Option PyData := (itemsD y).bind fun ds => if (dfreeAll ds || dfree x) && decide (min (PyData.depthAll ds) x.depth ≤ 60) then some (.bool (neg ^^ (ds.any fun z => PyData.eqv z x))) else none
def eIn (neg : Bool) : PyData → PyData → Option PyData
  | .str s, .str t => some (.bool (neg ^^ !(Builtin.Str.occurrences t s 0 t.length 1).isEmpty))
  | x, y => eInL neg x y
def eIs (neg : Bool) : PyData → PyData → Option PyData
  | x, .none => some (.bool (neg ^^ isNon x))
  | .bool i, .bool j => some (.bool (neg ^^ decide (i = j)))
  | _, _ => none
def eIx : PyData → PyData → Option PyData
  | .list xs, .int i => atI xs i
  | .tuple xs, .int i => atI xs i
  | .str z, .int i => if z.length ≤ sizeLine then (atI z.cps.toList i).map fun c => .str ⟨#[c]⟩ else none
  | _, _ => none
def eLen : PyData → Option PyData
  | .str z => if z.length ≤ sizeLine then some (.int z.length) else none
  | .list xs => some (.int xs.length)
  | .tuple xs => some (.int xs.length)
  | _ => none
def eInt : PyData → Option PyData
  | .int i => some (.int i)
  | .bool c => some (.int (if c then 1 else 0))
  | _ => none
def eAll : PyData → Option PyData
  | .list xs => (boolsOf xs).map fun bs => .bool (bs.all id)
  | _ => none
def eAny : PyData → Option PyData
  | .list xs => (boolsOf xs).map fun bs => .bool (bs.any id)
  | _ => none
def eIsi (Ts : List String) : PyData → Option PyData := fun d => some (.bool (Ts.any fun T => isiD T d))
def eListL : PyData → Option (List PyData)
  | .list xs => some xs
  | .tuple xs => some xs
  | _ => none
section
variable {C : Int → Int → Prop} {D : Int → Int → Bool} {g : Int → Int → PyData} {neg : Bool}
theorem ite_some {α : Type} {c : Prop} [Decidable c] {x r : α} (h : (if c then some x else none) = some r) : c ∧ x = r := by
  by_cases q : c
  · rw [if_pos q] at h; cases h; exact ⟨q, rfl⟩
  · rw [if_neg q] at h; cases h
theorem h2_add : H2 pAdd eAdd := fun x y P r q k => by
  cases x <;> cases y <;> first
    | (cases q; exact k)
    | (obtain ⟨c, e⟩ := ite_some q; subst e; exact ⟨c, k⟩)
    | cases q
theorem h2_i (hC : ∀ i j, D i j = true → C i j) : H2 (pI C g) (eI D g) := fun x y P r q k => by
  cases x <;> cases y <;> first
    | (obtain ⟨c, e⟩ := ite_some q; subst e; exact ⟨hC _ _ c, k⟩)
    | cases q
theorem h2_eq : H2 pEq2 eEq := fun x y P r q k => by
  obtain ⟨c, e⟩ := ite_some q
  subst e
  obtain ⟨c1, c2⟩ := Bool.and_eq_true_iff.mp c
  exact ⟨(Bool.or_eq_true _ _).mp c1, of_decide_eq_true c2, k⟩
theorem h2_ne : H2 pNe eNe := fun x y P r q k => by
  obtain ⟨c, e⟩ := ite_some q
  subst e
  obtain ⟨c1, c2⟩ := Bool.and_eq_true_iff.mp c
  exact ⟨c1, c2, k⟩
theorem inL_run {x y r : PyData} {P : PyData → Prop} (q : eInL neg x y = some r) (k : P r) : ∃ ds, itemsD y = some ds ∧ (dfreeAll ds = true ∨ dfree x = true) ∧ min (PyData.depthAll ds) x.depth ≤ 60 ∧ P (.bool (neg ^^ (ds.any fun z => PyData.eqv z x))) := by
  obtain ⟨ds, h1, q⟩ := bnd q
  obtain ⟨c, e⟩ := ite_some q
  subst e
  obtain ⟨c1, c2⟩ := Bool.and_eq_true_iff.mp c
  exact ⟨ds, h1, (Bool.or_eq_true _ _).mp c1, of_decide_eq_true c2, k⟩
theorem h2_in : H2 (pIn2 neg) (eIn neg) := fun x y P r q k => by
  cases x with
  | str s => cases y with
    | str t => cases q; exact k
    | _ => exact inL_run q k
  | _ => exact inL_run (y := y) (by cases y <;> exact q) k
theorem h2_is : H2 (pIs neg) (eIs neg) := fun x y P r q k => by
  cases x <;> cases y <;> first | (cases q; exact k) | cases q
theorem h2_ix : H2 pIx eIx := fun x y P r q k => by
  cases x with
  | list xs => cases y with
    | int i => show (match atI xs i with | some v => P v | none => False); rw [show atI xs i = some r from q]; exact k
    | _ => cases q
  | tuple xs => cases y with
    | int i => show (match atI xs i with | some v => P v | none => False); rw [show atI xs i = some r from q]; exact k
    | _ => cases q
  | str z => cases y with
    | int i =>
      have q : (if z.length ≤ sizeLine then (atI z.cps.toList i).map fun c => PyData.str ⟨#[c]⟩ else none) = some r := q
      by_cases c : z.length ≤ sizeLine
      · rw [if_pos c] at q
        obtain ⟨a, h1, h2⟩ := Option.map_eq_some_iff.mp q
        subst h2
        refine ⟨c, ?_⟩
        rw [h1]
        exact k
      · rw [if_neg c] at q; cases q
    | _ => cases q
  | _ => cases y <;> cases q
theorem h1_len : H1 pLen eLen := fun x P r q k => by
  cases x <;> first
    | (cases q; exact k)
    | (obtain ⟨c, e⟩ := ite_some q; subst e; exact ⟨c, k⟩)
    | cases q
theorem h1_int : H1 pInt eInt := fun x P r q k => by cases x <;> first | (cases q; exact k) | cases q
theorem h1_all : H1 pAll eAll := fun x P r q k => by
  cases x with
  | list xs =>
    obtain ⟨bs, h1, h2⟩ := Option.map_eq_some_iff.mp q
    subst h2
    show (match boolsOf xs with | some bs => P (.bool (bs.all id)) | none => False)
    rw [h1]
    exact k
  | _ => cases q
theorem h1_any : H1 pAny eAny := fun x P r q k => by
  cases x with
  | list xs =>
    obtain ⟨bs, h1, h2⟩ := Option.map_eq_some_iff.mp q
    subst h2
    show (match boolsOf xs with | some bs => P (.bool (bs.any id)) | none => False)
    rw [h1]
    exact k
  | _ => cases q
theorem h1_isi {Ts : List String} : H1 (pIsi Ts) (eIsi Ts) := fun x P r q k => by cases q; exact k
theorem h1_listL : H1L pListL eListL := fun x P r q k => by cases x <;> first | (cases q; exact k) | cases q
end
end Pu
namespace Pu
open PySem PySem.Spec PyProof.Rows L2 SeqAt PuS
/-- a product's factors fit -/
def mulB (i j : Int) : Bool := (decide (-(2 ^ 64) < i) && decide (i < 2 ^ 64)) || (decide (-(2 ^ 64) < j) && decide (j < 2 ^ 64))
def eMul : PyData → PyData → Option PyData
  | .int i, .int j => if mulB i j = true then some (.int (i * j)) else none
  | .list xs, .int k => if -(2 ^ 63) ≤ k ∧ k < 2 ^ 63 ∧ xs.length * k.toNat ≤ sizeLine then some (.list (List.replicate k.toNat xs).flatten) else none
  | _, _ => none
def eCatL : PyData → PyData → Option (List PyData)
  | .list xs, .list ys => if xs.length + ys.length ≤ sizeLine then some (xs ++ ys) else none
  | _, _ => none
def eRepL : PyData → PyData → Option (List PyData)
  | .list xs, .int k => if -(2 ^ 63) ≤ k ∧ k < 2 ^ 63 ∧ xs.length * k.toNat ≤ sizeLine then some (List.replicate k.toNat xs).flatten else none
  | _, _ => none
/-- keys of a datum, as a function -/
def keyD : PyData → Option Key
  | .int i => some (.inl i)
  | .str z => some (.inr z)
  | _ => none
def keysAll : List PyData → Option (List Key)
  | [] => some []
  | x :: xs => (keyD x).bind fun k => (keysAll xs).map fun ks => k :: ks
def keysF : PyData → Option (List Key)
  | .str z => some (ofStr z)
  | .list xs => keysAll xs
  | .tuple xs => keysAll xs
  | _ => none
theorem keyD_ok {x : PyData} {k : Key} (h : keyD x = some k) : x = kD k := by cases x <;> first | (cases h; rfl) | cases h
theorem keysAll_ok : ∀ {xs : List PyData} {ks : List Key}, keysAll xs = some ks → xs = ks.map kD
  | [], ks, h => by cases h; rfl
  | x :: xs, ks, h => by
    obtain ⟨k, h1, h⟩ := bnd h
    obtain ⟨r, h2, h⟩ := Option.map_eq_some_iff.mp h
    subst h
    rw [keyD_ok h1, keysAll_ok h2]
    rfl
theorem keysF_ok {x : PyData} {ks : List Key} (h : keysF x = some ks) : KeysD x ks := by
  cases x with
  | str z => cases h; exact .inl ⟨z, rfl, rfl⟩
  | list xs => exact .inr (.inl (by rw [keysAll_ok h]))
  | tuple xs => exact .inr (.inr (by rw [keysAll_ok h]))
  | _ => cases h
def eLenSet (x : PyData) : Option PyData := (keysF x).bind fun ks => if ks.length + 1 < scanBound then some (.int (dist ks).length) else none
def strKeys : List Key → Option (List Str)
  | [] => some []
  | .inr z :: r => (strKeys r).map fun zs => z :: zs
  | _ :: _ => none
theorem strKeys_ok : ∀ {ks : List Key} {zs : List Str}, strKeys ks = some zs → ks = zs.map Sum.inr
  | [], _, h => by cases h; rfl
  | .inr z :: r, _, h => by
    obtain ⟨t, h1, h⟩ := Option.map_eq_some_iff.mp h
    subst h
    rw [strKeys_ok h1]
    rfl
  | .inl _ :: _, _, h => by cases h
def eSortSet (x : PyData) : Option (List PyData) := (keysF x).bind fun ks => (strKeys ks).bind fun zs => if zs.length + 1 < scanBound then some ((asc zs).map .str) else none
def eJoin : Str → PyData → Option PyData
  | a, .list xs => (strsOf xs).bind fun ys => if (ys.map (·.length)).sum + ys.length * a.length ≤ 16777216 then some (.str (Txt.join a ys)) else none
  | _, _ => none
def eIndex : Str → PyData → Option PyData
  | a, .str c => match Builtin.Str.occurrences a c 0 a.length 1 with | i :: _ => some (.int (i : Nat)) | [] => none
  | _, _ => none
def eSl (lo hi : Option Int) : PyData → Option PyData
  | .str z => if z.length ≤ sizeLine then some (.str (cutS z lo hi)) else none
  | .tuple xs => some (.tuple (cutD xs lo hi))
  | .list xs => some (.list (cutD xs lo hi))
  | _ => none
section
variable {ta tb tc : WE} {ea eb ec : VE} {tl th : WO} {el eh : VO}
theorem h2_mul : H2 pMul eMul := fun x y P r q k => by
  cases x with
  | int i => cases y with
    | int j =>
      obtain ⟨c, e⟩ := ite_some q
      subst e
      refine ⟨?_, k⟩
      rcases (Bool.or_eq_true _ _).mp c with c | c
      · obtain ⟨c1, c2⟩ := Bool.and_eq_true_iff.mp c
        exact .inl ⟨of_decide_eq_true c1, of_decide_eq_true c2⟩
      · obtain ⟨c1, c2⟩ := Bool.and_eq_true_iff.mp c
        exact .inr ⟨of_decide_eq_true c1, of_decide_eq_true c2⟩
    | _ => cases q
  | list xs => cases y with
    | int j => obtain ⟨c, e⟩ := ite_some q; subst e; exact ⟨c.1, c.2.1, c.2.2, k⟩
    | _ => cases q
  | _ => cases y <;> cases q
theorem h2_catL : H2L pCatL eCatL := fun x y P r q k => by
  cases x <;> cases y <;> first | (obtain ⟨c, e⟩ := ite_some q; subst e; exact ⟨c, k⟩) | cases q
theorem h2_repL : H2L pRepL eRepL := fun x y P r q k => by
  cases x <;> cases y <;> first | (obtain ⟨c, e⟩ := ite_some q; subst e; exact ⟨c.1, c.2.1, c.2.2, k⟩) | cases q
theorem h1_lenSet : H1 pLenSet eLenSet := fun x P r q k => by
  obtain ⟨ks, h1, q⟩ := bnd q
  obtain ⟨c, e⟩ := ite_some q
  subst e
  exact .inl ⟨ks, keysF_ok h1, c, k⟩
theorem h1_sortSet : H1L pSortSet eSortSet := fun x P r q k => by
  obtain ⟨ks, h1, q⟩ := bnd q
  obtain ⟨zs, h2, q⟩ := bnd q
  obtain ⟨c, e⟩ := ite_some q
  subst e
  exact ⟨zs, by rw [← strKeys_ok h2]; exact keysF_ok h1, c, k⟩
abbrev HM (p : PS2) (e : Str → PyData → Option PyData) : Prop := ∀ a y P r, e a y = some r → P r → p a y P
theorem hm_join : HM pJoin eJoin := fun a y P r q k => by
  cases y with
  | list xs =>
    obtain ⟨ys, h1, q⟩ := bnd q
    obtain ⟨c, e⟩ := ite_some q
    subst e
    show (match strsOf xs with | some ys => (ys.map (·.length)).sum + ys.length * a.length ≤ 16777216 ∧ P (.str (Txt.join a ys)) | none => False)
    rw [h1]
    exact ⟨c, k⟩
  | _ => cases q
theorem hm_index : HM pIndex eIndex := fun a y P r q k => by
  cases y with
  | str c =>
    have q : (match Builtin.Str.occurrences a c 0 a.length 1 with | i :: _ => some (PyData.int (i : Nat)) | [] => none) = some r := q
    show (match Builtin.Str.occurrences a c 0 a.length 1 with | i :: _ => P (.int (i : Nat)) | [] => False)
    cases e : Builtin.Str.occurrences a c 0 a.length 1 with
    | nil => rw [e] at q; cases q
    | cons i l => rw [e] at q; cases q; exact k
  | _ => cases q
end
end Pu
namespace Pu
open PySem PySem.Spec PyProof.Rows L2 SeqAt PuS
abbrev eLt := eI (fun _ _ => true) fun i j => .bool (decide (i < j))
abbrev eLe := eI (fun _ _ => true) fun i j => .bool (decide (i ≤ j))
abbrev eGt := eI (fun _ _ => true) fun i j => .bool (decide (j < i))
abbrev eGe := eI (fun _ _ => true) fun i j => .bool (decide (j ≤ i))
abbrev eSub := eI (fun _ _ => true) fun i j => .int (i - j)
abbrev eMod := eI (fun _ j => decide (0 < j)) fun i j => .int (i % j)
theorem h2_lt : H2 pLt eLt := h2_i fun _ _ _ => trivial
theorem h2_le : H2 pLe eLe := h2_i fun _ _ _ => trivial
theorem h2_gt : H2 pGt eGt := h2_i fun _ _ _ => trivial
theorem h2_ge : H2 pGe eGe := h2_i fun _ _ _ => trivial
theorem h2_sub : H2 pSub eSub := h2_i fun _ _ _ => trivial
theorem h2_mod : H2 pMod eMod := h2_i fun _ _ h => of_decide_eq_true h
end Pu
namespace Pu
open PySem PySem.Spec PyProof.Rows L2 SeqAt PuS
def chS (z : Str) : List PyData := z.cps.toList.map fun c => .str ⟨#[c]⟩
def chV (z : Str) : List V := z.cps.toList.map fun c => .str ⟨#[c]⟩
theorem rvs_ch {K : PySem.W.Frag} {F : Hp} (z : Str) : RVs K F (chV z) (chS z) := by
  unfold chV chS
  generalize z.cps.toList = l
  induction l with
  | nil => exact .nil
  | cons c r ih => exact .cons (.str _) ih
def rListS : List V → Hp → VK → Prop := fun xs H Q => ∃ z, xs = [.str z] ∧ z.length ≤ sizeLine ∧ ∀ p, H p = none → Q (.ref p) (upd H p (.lst (chV z)))
theorem call_listS {X : Cx} (hc : X.calm = true) : CallR X (.type "list") rListS := by
  intro pins s σ H xs us Q I r h
  obtain ⟨z, e, hl, q⟩ := h
  subst e
  obtain ⟨u, eu, rx⟩ := vals1 r
  subst eu
  obtain ⟨t, rfl⟩ := rx
  have lz : (chV z).length = z.cps.size := by simp [chV]
  refine call_list_str (I.ok.hd hc) z t (fun h' tk acc c' hk e hi => ?_) hl
  have vs : Vals (chV z) acc.toList := by
    refine vals_of_at (by rw [lz, Array.length_toList, hi.1]) fun j x u h1 h2 => ?_
    obtain ⟨c, tk, e1, rfl⟩ := hi.2 j u (by rw [← h2, Array.getElem?_toList])
    unfold chV at h1
    rw [List.getElem?_map, Array.getElem?_toList, e1] at h1
    cases h1
    exact ⟨tk, rfl⟩
  refine ⟨.ref s.heap.objs.size, upd H s.heap.objs.size (.lst (chV z)), I.laid hk (Nat.le_refl _) (show ObjOk X.prog X.w _ _ _ (.lst (chV z)) from ⟨by rw [lz]; exact hl, acc.toList, c', vs, ?_⟩), rfl, q _ (I.hok.fresh (Nat.le_refl _))⟩
  rw [Array.toArray_toList]
  exact e
/-- list(x) of a list, a tuple, a text -/
def pListA : PyData → (List PyData → Prop) → Prop
  | .list xs, P => P xs
  | .tuple xs, P => P xs
  | .str z, P => z.length ≤ sizeLine ∧ P (chS z)
  | _, _ => False
def rListA (K : PySem.W.Frag) : List V → Hp → VK → Prop := fun xs H Q => (∃ p ys, xs = [.ref p] ∧ (SqL K H p ys ∨ SqT K H p ys) ∧ ∀ l, H l = none → Q (.ref l) (upd H l (.lst ys))) ∨ rListS xs H Q
theorem call_listA {X : Cx} (hc : X.calm = true) : CallR X (.type "list") (rListA X.K) := fun pins s σ H xs us Q I r h => h.elim (fun h => call_list_of pins s σ H xs us Q I r h) fun h => call_listS hc pins s σ H xs us Q I r h
theorem c_listA {X : Cx} : Cl1L X.K (rListA X.K) pListA := by
  intro pn b F H v x P Q o bv q k
  match x, q with
  | .list xs, q =>
    obtain ⟨a, vs, rfl, h1, r1⟩ := bv.list o
    exact .inl ⟨_, vs, rfl, .inl (SqL.of h1), k.lst o r1 q⟩
  | .tuple xs, q =>
    obtain ⟨a, vs, rfl, h1, r1⟩ := bv.tup o
    exact .inl ⟨_, vs, rfl, .inr h1, k.lst o r1 q⟩
  | .str z, ⟨hl, q⟩ =>
    rw [bv.str]
    exact .inr ⟨z, rfl, hl, k.lst o (rvs_ch z) q⟩
def eListA : PyData → Option (List PyData)
  | .list xs => some xs
  | .tuple xs => some xs
  | .str z => if z.length ≤ sizeLine then some (chS z) else none
  | _ => none
theorem h1_listA : H1L pListA eListA := fun x P r q k => by
  cases x <;> first | (cases q; exact k) | (obtain ⟨c, e⟩ := ite_some q; subst e; exact ⟨c, k⟩) | cases q
end Pu
namespace Pu
open PySem PySem.Spec PyProof.Rows L2 SeqAt PuS
/-- from env with n draws left at least, t gives an r with m draws left at least, of which Q -/
def ME {α : Type} (t : En → Nat → (α → Nat → Prop) → Prop) (env : En) (n : Nat) (Q : α → Nat → Prop) : Prop :=
  ∀ (b : Nat) (P : α → Nat → Prop), n ≤ b → (∀ r m b', Q r m → m ≤ b' → P r b') → t env b P
def MD (f : WD) (ss : List Sl) (n : Nat) (Q : PyData → Nat → Prop) : Prop :=
  ∀ (b : Nat) (P : PyData → Nat → Prop), n ≤ b → (∀ r m b', Q r m → m ≤ b' → P r b') → f ss b P
/-- a statement: N what follows, R returns, B breaks, C continues -/
def MS (t : WS) (env : En) (n : Nat) (N : En → Nat → Prop) (R : PyData → Nat → Prop) (B C : En → Nat → Prop) : Prop :=
  ∀ (PD : PEnds) (b : Nat), n ≤ b → (∀ e m b', N e m → m ≤ b' → PD.nx e b') → (∀ r m b', R r m → m ≤ b' → PD.rt r b') →
    (∀ e m b', B e m → m ≤ b' → PD.bk e b') → (∀ e m b', C e m → m ≤ b' → PD.ct e b') → t PD env b
section
variable {α : Type} {t u : En → Nat → (α → Nat → Prop) → Prop} {env : En} {n : Nat} {Q : α → Nat → Prop}
theorem ME.imp {Q' : α → Nat → Prop} (h : ME t env n Q) (i : ∀ r m, Q r m → Q' r m) : ME t env n Q' := fun b P hb k => h b P hb fun r m b' q hm => k r m b' (i r m q) hm
theorem ME.pure {e : En → Option α} (ht : ∀ env b P r, e env = some r → P r b → t env b P) {r : α} (he : e env = some r) (q : Q r n) : ME t env n Q := fun b P hb k => ht env b P r he (k r n b q hb)
end
section
variable {f : WD} {ss : List Sl} {n : Nat} {Q Q' : PyData → Nat → Prop}
theorem MD.imp (h : MD f ss n Q) (i : ∀ r m, Q r m → Q' r m) : MD f ss n Q' := fun b P hb k => h b P hb fun r m b' q hm => k r m b' (i r m q) hm
end
section
variable {ta tb tc : WE} {tt tu : WT} {tf : WF} {env : En} {n : Nat} {Q : PyData → Nat → Prop} {QT : Bool → Nat → Prop} {QL : List PyData → Nat → Prop}
theorem m_c {d : PyData} (q : Q d n) : ME (wC d) env n Q := fun b P hb k => k d n b q hb
theorem m_d0 (q : Q (.dict []) n) : ME wD0 env n Q := fun b P hb k => k _ n b q hb
theorem m_var {i : Nat} {x : PyData} (h : vVar i env = some x) (q : Q x n) : ME (wVar i) env n Q := ME.pure h_var h q
theorem m_val {i : Nat} {x : PyData} (h : vVal i env = some x) (q : Q x n) : ME (wVal i) env n Q := ME.pure h_val h q
theorem m_z (h : ME tf env n fun xs m => Q (.list xs) m) : ME (fz tf) env n Q := fun b P hb k => h b _ hb fun r m b' q hm => k _ m b' q hm
theorem m_op {p : P2} {e : PyData → PyData → Option PyData} (hp : H2 p e) (h : ME ta env n fun x m => ME tb env m fun y m' => ∃ z, e x y = some z ∧ Q z m') : ME (wOp p ta tb) env n Q :=
  fun b P hb k => h b _ hb fun x m b1 hx hb1 => hx b1 _ hb1 fun y m' b2 ⟨z, e, q⟩ hb2 => hp x y _ z e (k z m' b2 q hb2)
theorem m_opL {p : PyData → PyData → (List PyData → Prop) → Prop} {e : PyData → PyData → Option (List PyData)} (hp : H2L p e) (h : ME ta env n fun x m => ME tb env m fun y m' => ∃ z, e x y = some z ∧ QL z m') : ME (wOpL p ta tb) env n QL :=
  fun b P hb k => h b _ hb fun x m b1 hx hb1 => hx b1 _ hb1 fun y m' b2 ⟨z, e, q⟩ hb2 => hp x y _ z e (k z m' b2 q hb2)
theorem m_1 {p : P1} {e : PyData → Option PyData} (hp : H1 p e) (h : ME ta env n fun x m => ∃ z, e x = some z ∧ Q z m) : ME (w1 p ta) env n Q :=
  fun b P hb k => h b _ hb fun x m b1 ⟨z, e, q⟩ hb1 => hp x _ z e (k z m b1 q hb1)
theorem m_1L {p : PyData → (List PyData → Prop) → Prop} {e : PyData → Option (List PyData)} (hp : H1L p e) (h : ME ta env n fun x m => ∃ z, e x = some z ∧ QL z m) : ME (w1L p ta) env n QL :=
  fun b P hb k => h b _ hb fun x m b1 ⟨z, e, q⟩ hb1 => hp x _ z e (k z m b1 q hb1)
theorem m_ms {p : PS2} {e : Str → PyData → Option PyData} (hp : HM p e) (h : ME ta env n fun x m => ∃ a, x = .str a ∧ ME tb env m fun y m' => ∃ z, e a y = some z ∧ Q z m') : ME (wMS p ta tb) env n Q :=
  fun b P hb k => h b _ hb fun x m b1 ⟨a, ea, hx⟩ hb1 => by
    subst ea
    exact hx b1 _ hb1 fun y m' b2 ⟨z, e, q⟩ hb2 => hp a y _ z e (k z m' b2 q hb2)
theorem m_tt (h : ME ta env n fun d m => ∃ c, d = .bool c ∧ QT c m) : ME (wTt ta) env n QT :=
  fun b P hb k => h b _ hb fun x m b1 ⟨c, e, q⟩ hb1 => by subst e; exact k c m b1 q hb1
theorem m_tru (h : ME ta env n fun d m => ∃ c, eTru d = some c ∧ QT c m) : ME (wTru ta) env n QT :=
  fun b P hb k => h b _ hb fun x m b1 ⟨c, e, q⟩ hb1 => tru_run e (k c m b1 q hb1)
theorem m_notT (h : ME tt env n fun c m => QT (!c) m) : ME (wNotT tt) env n QT := fun b P hb k => h b _ hb fun c m b1 q hb1 => k _ m b1 q hb1
theorem m_andT (h : ME tt env n fun c m => (c = true → ME tu env m QT) ∧ (c = false → QT false m)) : ME (wAndT tt tu) env n QT :=
  fun b P hb k => h b _ hb fun c m b1 ⟨q1, q2⟩ hb1 => by
    cases c with
    | true => exact q1 rfl b1 P hb1 k
    | false => exact k false m b1 (q2 rfl) hb1
theorem m_orT (h : ME tt env n fun c m => (c = true → QT true m) ∧ (c = false → ME tu env m QT)) : ME (wOrT tt tu) env n QT :=
  fun b P hb k => h b _ hb fun c m b1 ⟨q1, q2⟩ hb1 => by
    cases c with
    | true => exact k true m b1 (q1 rfl) hb1
    | false => exact q2 rfl b1 P hb1 k
theorem m_yes (q : QT true n) : ME wYes env n QT := fun b P hb k => k true n b q hb
theorem m_ifE (h : ME tt env n fun c m => (c = true → ME ta env m Q) ∧ (c = false → ME tb env m Q)) : ME (wIfE tt ta tb) env n Q :=
  fun b P hb k => h b _ hb fun c m b1 ⟨q1, q2⟩ hb1 => by
    cases c with
    | true => exact q1 rfl b1 P hb1 k
    | false => exact q2 rfl b1 P hb1 k
theorem m_andE (h : ME ta env n fun x m => ∃ c, eTru x = some c ∧ (c = true → ME tb env m Q) ∧ (c = false → Q x m)) : ME (wAndE ta tb) env n Q :=
  fun b P hb k => h b _ hb fun x m b1 ⟨c, e, q1, q2⟩ hb1 => tru_run e (by
    cases c with
    | true => exact q1 rfl b1 P hb1 k
    | false => exact k x m b1 (q2 rfl) hb1)
theorem m_orE (h : ME ta env n fun x m => ∃ c, eTru x = some c ∧ (c = true → Q x m) ∧ (c = false → ME tb env m Q)) : ME (wOrE ta tb) env n Q :=
  fun b P hb k => h b _ hb fun x m b1 ⟨c, e, q1, q2⟩ hb1 => tru_run e (by
    cases c with
    | true => exact k x m b1 (q1 rfl) hb1
    | false => exact q2 rfl b1 P hb1 k)
theorem m_notE (h : ME ta env n fun x m => ∃ c, eTru x = some c ∧ Q (.bool (!c)) m) : ME (wNotE ta) env n Q :=
  fun b P hb k => h b _ hb fun x m b1 ⟨c, e, q⟩ hb1 => tru_run e (k _ m b1 q hb1)
theorem m_neg (h : ME ta env n fun x m => ∃ i, x = .int i ∧ Q (.int (-i)) m) : ME (wNeg ta) env n Q :=
  fun b P hb k => h b _ hb fun x m b1 ⟨i, e, q⟩ hb1 => by subst e; exact k _ m b1 q hb1
theorem m_nil (q : QL [] n) : ME wNil env n QL := fun b P hb k => k [] n b q hb
theorem m_cons {tl : WL} (h : ME ta env n fun x m => ME tl env m fun xs m' => QL (x :: xs) m') : ME (wCons ta tl) env n QL :=
  fun b P hb k => h b _ hb fun x m b1 hx hb1 => hx b1 _ hb1 fun xs m' b2 q hb2 => k _ m' b2 q hb2
theorem m_tup {tl : WL} (h : ME tl env n fun xs m => xs.length ≤ sizeLine ∧ Q (.tuple xs) m) : ME (wTup tl) env n Q :=
  fun b P hb k => h b _ hb fun xs m b1 ⟨l, q⟩ hb1 => ⟨l, k _ m b1 q hb1⟩
theorem m_lst {tl : WL} (h : ME tl env n fun xs m => xs.length ≤ sizeLine ∧ QL xs m) : ME (wLst tl) env n QL :=
  fun b P hb k => h b _ hb fun xs m b1 ⟨l, q⟩ hb1 => ⟨l, k _ m b1 q hb1⟩
theorem m_aNil {QA : List Sl → Nat → Prop} (q : QA [] n) : ME wANil env n QA := fun b P hb k => k [] n b q hb
theorem m_aCons {QA : List Sl → Nat → Prop} {tl : WA} (h : ME ta env n fun x m => ME tl env m fun xs m' => QA (.d x :: xs) m') : ME (wACons ta tl) env n QA :=
  fun b P hb k => h b _ hb fun x m b1 hx hb1 => hx b1 _ hb1 fun xs m' b2 q hb2 => k _ m' b2 q hb2
/-- what a name hands on -/
def handed : Option (Option Sl) → Option Sl
  | some (some .p) => some .p
  | some (some (.d x)) => some (.d x)
  | some (some (.l ys)) => some (.r ys)
  | some (some (.r ys)) => some (.r ys)
  | _ => none
theorem m_aName {QA : List Sl → Nat → Prop} {tl : WA} {i : Nat} {s : Sl} (hs : handed env[i]? = some s) (h : ME tl env n fun xs m' => QA (s :: xs) m') : ME (wAName i tl) env n QA := fun b P hb k => by
  unfold wAName
  split
  all_goals first
    | (rename_i e; rw [e] at hs; cases hs; exact h b _ hb fun xs m' b2 q hb2 => k _ m' b2 q hb2)
    | (rename_i x e; rw [e] at hs; cases hs; exact h b _ hb fun xs m' b2 q hb2 => k _ m' b2 q hb2)
    | skip
  rename_i h1 h2 h3 h4
  exfalso
  revert hs
  cases e : env[i]? with
  | none => intro z; cases z
  | some o => cases o with
    | none => intro z; cases z
    | some s' => cases s' with
      | p => exact absurd e h1
      | d x => exact absurd e (h2 x)
      | l x => exact absurd e (h3 x)
      | r x => exact absurd e (h4 x)
      | k x => intro z; cases z
theorem m_call {f : WD} {tl : WA} (h : ME tl env n fun ss m => MD f ss m Q) : ME (wCall f tl) env n Q :=
  fun b P hb k => h b _ hb fun ss m b1 q hb1 => q b1 P hb1 k
theorem m_noPart {QO : Option Int → Nat → Prop} (q : QO none n) : ME wNoPart env n QO := fun b P hb k => k none n b q hb
theorem m_part {QO : Option Int → Nat → Prop} (h : ME ta env n fun x m => ∃ i, x = .int i ∧ QO (some i) m) : ME (wPart ta) env n QO :=
  fun b P hb k => h b _ hb fun x m b1 ⟨i, e, q⟩ hb1 => by subst e; exact k _ m b1 q hb1
theorem sl_run {lo hi : Option Int} {x r : PyData} {P : PyData → Prop} (h : eSl lo hi x = some r) (k : P r) : pSl lo hi x P := by
  cases x <;> first | (cases h; exact k) | (obtain ⟨c, e⟩ := ite_some h; subst e; exact ⟨c, k⟩) | cases h
theorem m_sl {tl th : WO} (h : ME ta env n fun x m => ME tl env m fun lo m1 => ME th env m1 fun hi m2 => ∃ z, eSl lo hi x = some z ∧ Q z m2) : ME (wSl ta tl th) env n Q :=
  fun b P hb k => h b _ hb fun x m b1 hx hb1 => hx b1 _ hb1 fun lo m1 b2 hl hb2 => hl b2 _ hb2 fun hi m2 b3 ⟨z, e, q⟩ hb3 => sl_run e (k z m2 b3 q hb3)
theorem m_slL {tl th : WO} (h : ME ta env n fun x m => ME tl env m fun lo m1 => ME th env m1 fun hi m2 => ∃ xs, x = .list xs ∧ QL (cutD xs lo hi) m2) : ME (wSlL ta tl th) env n QL :=
  fun b P hb k => h b _ hb fun x m b1 hx hb1 => hx b1 _ hb1 fun lo m1 b2 hl hb2 => hl b2 _ hb2 fun hi m2 b3 ⟨xs, e, q⟩ hb3 => by subst e; exact k _ m2 b3 q hb3
theorem m_ch {p p' : P2} {e e' : PyData → PyData → Option PyData} (hp : H2 p e) (hp' : H2 p' e')
    (h : ME ta env n fun x m => ME tb env m fun y m1 => ∃ c, e x y = some (.bool c) ∧ (c = true → ME tc env m1 fun w m2 => ∃ z, e' y w = some z ∧ Q z m2) ∧ (c = false → Q (.bool false) m1)) : ME (wCh p p' ta tb tc) env n Q :=
  fun b P hb k => h b _ hb fun x m b1 hx hb1 => hx b1 _ hb1 fun y m1 b2 ⟨c, e1, q1, q2⟩ hb2 => hp x y _ _ e1 (by
    cases c with
    | true => exact q1 rfl b2 _ hb2 fun w m2 b3 ⟨z, e2, q⟩ hb3 => hp' y w _ z e2 (k z m2 b3 q hb3)
    | false => exact k _ m1 b2 (q2 rfl) hb2)
theorem m_seq (h : ME ta env n fun x m => ∃ xs, seqOf x = some xs ∧ QL xs m) : ME (wSeq ta) env n QL :=
  fun b P hb k => h b _ hb fun x m b1 ⟨xs, e, q⟩ hb1 => by
    show (match seqOf x with | some xs => P xs b1 | none => False)
    rw [e]
    exact k xs m b1 q hb1
theorem m_rng1 (h : ME ta env n fun x m => ∃ j, x = .int j ∧ -(2 ^ 62) ≤ j ∧ j < 2 ^ 62 ∧ QL (rngD 0 j.toNat) m) : ME (wRng1 ta) env n QL :=
  fun b P hb k => h b _ hb fun x m b1 ⟨j, e, l1, l2, q⟩ hb1 => by subst e; exact ⟨l1, l2, k _ m b1 q hb1⟩
theorem m_zip (h : ME ta env n fun x m => ME tb env m fun y m1 => ∃ xs ys, (x = .list xs ∧ y = .list ys ∨ x = .tuple xs ∧ y = .tuple ys) ∧ QL (zipD xs ys) m1) : ME (wZip ta tb) env n QL :=
  fun b P hb k => h b _ hb fun x m b1 hx hb1 => hx b1 _ hb1 fun y m1 b2 ⟨xs, ys, e, q⟩ hb2 => by
    rcases e with ⟨e1, e2⟩ | ⟨e1, e2⟩ <;> subst e1 <;> subst e2 <;> exact k _ m1 b2 q hb2
/-- a comprehension, by what holds of the rest, what is made, the draws left -/
theorem lc_inv {g : Tg} {own : List Nat} {PL : List PyData → Nat → Prop} (J : List PyData → List PyData → Nat → Prop)
    (step : ∀ x rest acc m, J (x :: rest) acc m → ∃ e', setT g x (wipeE env own) = some e' ∧ ME tt e' m fun c m1 => (c = true → ME ta e' m1 fun y m2 => J rest (acc ++ [y]) m2) ∧ (c = false → J rest acc m1))
    (done : ∀ acc m b, J [] acc m → m ≤ b → PL acc b) : ∀ (xs : List PyData) (b : Nat) (acc : List PyData) (m : Nat), J xs acc m → m ≤ b → wLc g tt ta own env xs b acc PL
  | [], b, acc, m, j, hb => by unfold wLc; exact done acc m b j hb
  | x :: xs, b, acc, m, j, hb => by
    obtain ⟨e', h1, h2⟩ := step x xs acc m j
    unfold wLc
    rw [h1]
    refine h2 b _ hb fun c m1 b1 ⟨q1, q2⟩ hb1 => ?_
    cases c with
    | true => exact q1 rfl b1 _ hb1 fun y m2 b2 q hb2 => lc_inv J step done xs b2 (acc ++ [y]) m2 q hb2
    | false => exact lc_inv J step done xs b1 acc m1 (q2 rfl) hb1
theorem m_lc {ti : WI} {g : Tg} {own : List Nat} (h : ME ti env n fun xs m => xs.length < sizeLine ∧ ∃ J : List PyData → List PyData → Nat → Prop, J xs [] m ∧
      (∀ x rest acc m, J (x :: rest) acc m → ∃ e', setT g x (wipeE env own) = some e' ∧ ME tt e' m fun c m1 => (c = true → ME ta e' m1 fun y m2 => J rest (acc ++ [y]) m2) ∧ (c = false → J rest acc m1)) ∧
      ∀ acc m, J [] acc m → QL acc m) : ME (fLc ti g tt ta own) env n QL :=
  fun b P hb k => h b _ hb fun xs m b1 ⟨l, J, j0, step, done⟩ hb1 => ⟨l, lc_inv J step (fun acc m b' j hb' => k acc m b' (done acc m j) hb') xs b1 [] m j0 hb1⟩
/-- one that draws nothing: a filter and a map -/
theorem m_lcF {ti : WI} {g : Tg} {own : List Nat} (c : PyData → Bool) (y : PyData → PyData) (h : ME ti env n fun xs m => xs.length < sizeLine ∧
      (∀ x ∈ xs, ∃ e', setT g x (wipeE env own) = some e' ∧ (∀ m, ME tt e' m fun k m1 => k = c x ∧ m1 = m) ∧ (c x = true → ∀ m, ME ta e' m fun d m1 => d = y x ∧ m1 = m)) ∧
      QL ((xs.filter c).map y) m) : ME (fLc ti g tt ta own) env n QL :=
  m_lc (h.imp fun xs m ⟨l, each, q⟩ => ⟨l, fun rest acc m1 => m1 = m ∧ ∃ pre, xs = pre ++ rest ∧ acc = (pre.filter c).map y, ⟨rfl, [], rfl, rfl⟩, fun x rest acc m1 ⟨em, pre, e1, e2⟩ => by
    subst em
    obtain ⟨e', h1, h2, h3⟩ := each x (by rw [e1]; simp)
    refine ⟨e', h1, (h2 m1).imp fun k m2 ⟨ek, em⟩ => ?_⟩
    subst ek em
    refine ⟨fun ck => (h3 ck m2).imp fun d m3 ⟨ed, em⟩ => ?_, fun ck => ?_⟩
    · subst ed em
      exact ⟨rfl, pre ++ [x], by rw [e1]; simp, by rw [e2, List.filter_append, List.map_append]; simp [ck]⟩
    · exact ⟨rfl, pre ++ [x], by rw [e1]; simp, by rw [e2, List.filter_append, List.map_append]; simp [ck]⟩, fun acc m1 ⟨em, pre, e1, e2⟩ => by
    subst em
    rw [List.append_nil] at e1
    subst e1
    rw [e2]
    exact q⟩)
end
section
variable {t u tb : WS} {ta tc : WE} {tt : WT} {tf : WF} {ti : WI} {env : En} {n i j : Nat} {g : Tg} {N : En → Nat → Prop} {R : PyData → Nat → Prop} {B C : En → Nat → Prop}
theorem n_next (q : N env n) : MS sNext env n N R B C := fun PD b hb kn kr kb kc => kn env n b q hb
theorem n_seq (h : MS t env n (fun e m => MS u e m N R B C) R B C) : MS (sSeq t u) env n N R B C :=
  fun PD b hb kn kr kb kc => h _ b hb (fun e m b' q hm => q PD b' hm kn kr kb kc) kr kb kc
theorem n_ret (h : ME ta env n R) : MS (sRet ta) env n N R B C := fun PD b hb kn kr kb kc => h b _ hb kr
theorem n_if (h : ME tt env n fun c m => (c = true → MS t env m N R B C) ∧ (c = false → MS u env m N R B C)) : MS (sIf tt t u) env n N R B C :=
  fun PD b hb kn kr kb kc => h b _ hb fun c m b1 ⟨q1, q2⟩ hb1 => by
    cases c with
    | true => exact q1 rfl PD b1 hb1 kn kr kb kc
    | false => exact q2 rfl PD b1 hb1 kn kr kb kc
theorem n_asg (h : ME ta env n fun d m => ∃ e', setT g d env = some e' ∧ N e' m) : MS (sAsg ta g) env n N R B C :=
  fun PD b hb kn kr kb kc => h b _ hb fun d m b1 ⟨e', e, q⟩ hb1 => by
    show (match setT g d env with | some env' => PD.nx env' b1 | none => False)
    rw [e]
    exact kn e' m b1 q hb1
theorem n_set (h : ME ta env n fun d m => N (env.set i (some (.d d))) m) : MS (sSet ta i) env n N R B C := fun PD b hb kn kr kb kc => h b _ hb fun d m b1 q hb1 => kn _ m b1 q hb1
theorem n_setL (h : ME tf env n fun d m => N (env.set i (some (.l d))) m) : MS (sSetL tf i) env n N R B C := fun PD b hb kn kr kb kc => h b _ hb fun d m b1 q hb1 => kn _ m b1 q hb1
theorem n_app {xs : List PyData} (hx : env[i]? = some (some (.l xs))) (h : ME ta env n fun d m => xs.length < sizeLine ∧ N (env.set i (some (.l (xs ++ [d])))) m) : MS (sApp i ta) env n N R B C :=
  fun PD b hb kn kr kb kc => by
    unfold sApp
    rw [hx]
    exact h b _ hb fun d m b1 ⟨l, q⟩ hb1 => ⟨l, kn _ m b1 q hb1⟩
theorem n_retN {d : PyData} (hx : env[i]? = some (some (.d d)) ∨ ∃ xs, d = .list xs ∧ env[i]? = some (some (.l xs))) (q : R d n) : MS (sRetN i) env n N R B C :=
  fun PD b hb kn kr kb kc => by
    unfold sRetN
    rcases hx with hx | ⟨xs, rfl, hx⟩ <;> (rw [hx]; exact kr _ n b q hb)
theorem n_par (h : ME ta env n fun x m => ME tc env m fun y m1 => N ((env.set i (some (.d x))).set j (some (.d y))) m1) : MS (sPar i j ta tc) env n N R B C :=
  fun PD b hb kn kr kb kc => h b _ hb fun x m b1 hx hb1 => hx b1 _ hb1 fun y m1 b2 q hb2 => kn _ m1 b2 q hb2
theorem n_parL (h : ME ta env n fun x m => ME tf env m fun y m1 => N ((env.set i (some (.d x))).set j (some (.l y))) m1) : MS (sParL i j ta tf) env n N R B C :=
  fun PD b hb kn kr kb kc => h b _ hb fun x m b1 hx hb1 => hx b1 _ hb1 fun y m1 b2 q hb2 => kn _ m1 b2 q hb2
theorem n_fz {xs : List PyData} (hx : env[i]? = some (some (.l xs))) (h : MS t (env.set i (some (.d (.list xs)))) n N R B C) : MS (sFz i t) env n N R B C :=
  fun PD b hb kn kr kb kc => by
    unfold sFz
    rw [hx]
    exact h PD b hb kn kr kb kc
theorem for_inv {PD : PEnds} (I : List PyData → En → Nat → Prop)
    (step : ∀ x rest e m, I (x :: rest) e m → ∃ e', setT g x e = some e' ∧ MS tb e' m (fun e2 m2 => I rest e2 m2) R N (fun e2 m2 => I rest e2 m2))
    (done : ∀ e m, I [] e m → N e m) (kn : ∀ e m b', N e m → m ≤ b' → PD.nx e b') (kr : ∀ r m b', R r m → m ≤ b' → PD.rt r b') :
    ∀ (xs : List PyData) (e : En) (m b : Nat), I xs e m → m ≤ b → wFor g tb PD xs e b
  | [], e, m, b, j, hb => by unfold wFor; exact kn e m b (done e m j) hb
  | x :: xs, e, m, b, j, hb => by
    obtain ⟨e', h1, h2⟩ := step x xs e m j
    unfold wFor
    rw [h1]
    exact h2 _ b hb (fun e2 m2 b2 q h => for_inv I step done kn kr xs e2 m2 b2 q h) kr kn (fun e2 m2 b2 q h => for_inv I step done kn kr xs e2 m2 b2 q h)
theorem n_for (h : ME ti env n fun xs m => ∃ I : List PyData → En → Nat → Prop, I xs env m ∧
      (∀ x rest e m, I (x :: rest) e m → ∃ e', setT g x e = some e' ∧ MS tb e' m (fun e2 m2 => I rest e2 m2) R N (fun e2 m2 => I rest e2 m2)) ∧ ∀ e m, I [] e m → N e m) : MS (sFor ti g tb) env n N R B C :=
  fun PD b hb kn kr kb kc => h b _ hb fun xs m b1 ⟨I, i0, step, done⟩ hb1 => for_inv I step done kn kr xs env m b1 i0 hb1
theorem MS.mid {N' : En → Nat → Prop} {R' : PyData → Nat → Prop} (h : MS t env n N' R' B C) (hn : ∀ e m, N' e m → N e m) (hr : ∀ r m, R' r m → R r m) : MS t env n N R B C :=
  fun PD b hb kn kr kb kc => h PD b hb (fun e m b' q => kn e m b' (hn e m q)) (fun r m b' q => kr r m b' (hr r m q)) kb kc
end
abbrev noEnd : En → Nat → Prop := fun _ _ => False
theorem md_def {np nn : Nat} {t : WS} {ss : List Sl} {n : Nat} {Q : PyData → Nat → Prop} {env : En} (hl : ss.length = np) (he : env0 nn ss = env) (h : MS t env n (fun _ m => Q .none m) Q noEnd noEnd) : MD (wDef np nn t) ss n Q :=
  fun b P hb k => ⟨hl, by subst he; exact h _ b hb (fun e m b' q hm => k _ m b' q hm) k (fun _ _ _ q => q.elim) (fun _ _ _ q => q.elim)⟩
end Pu
namespace PySem
open Sem (wp)
end PySem
namespace Pu
open PySem PySem.Spec PyProof.Rows L2 SeqAt PuS
def wEnumT (t : WE) : WI := fun env b P => t env b fun x b1 => match x with
  | .list xs => P (enumD xs) b1
  | .tuple xs => P (enumD xs) b1
  | .str z => P (enumD (chS z)) b1
  | _ => False
theorem m_enumT {ta : WE} {env : En} {n : Nat} {QL : List PyData → Nat → Prop} (h : ME ta env n fun x m => ∃ xs, (x = .list xs ∨ x = .tuple xs) ∧ QL (enumD xs) m) : ME (wEnumT ta) env n QL :=
  fun b P hb k => h b _ hb fun x m b1 ⟨xs, e, q⟩ hb1 => by rcases e with e | e <;> subst e <;> exact k _ m b1 q hb1
end Pu
namespace Pu
open PySem PySem.Spec PyProof.Rows L2 SeqAt PuS
def revS (z : Str) : Str := ⟨z.cps.toList.reverse.toArray⟩
theorem sliceBy_rev (z : Str) : Txt.sliceBy z none none (-1, 0) = revS z := by
  have h := step_rev_list z 0
  refine PySem.W.str_of_cps ?_
  rw [h]
  unfold revS
  rw [List.toList_toArray]
  refine List.ext_getElem (by simp [Str.length]) fun i h1 h2 => ?_
  rw [List.getElem_map, List.getElem_range, List.getElem_reverse]
  have hz : i < z.cps.size := by simpa using h2
  rw [Array.getElem_toList]
  simp [Array.getD, Str.length]
  rw [dif_pos (by omega)]
def pRevE : P1
  | .list xs, P => P (.list xs.reverse)
  | .tuple xs, P => P (.tuple xs.reverse)
  | .str z, P => z.length ≤ sizeLine ∧ P (.str (revS z))
  | _, _ => False
section
variable {prog : Program} {w : World} {A : Around} {E : Value → Shared → Prop} {s : Shared}
theorem applied_rev {sl : Addr} {vs : Value} {n : Nat} {Q : Int × Int × Nat → Shared → Prop} (hs : s.heap.IsSliceOf sl .none .none vs) (ps : IsPart vs (some (-1)))
    (h : Q ((n : Int) - 1, -1, n) s) : wpAny (model prog w) A (Builtin.Slice.sliceApplied (.ref sl) (pure (n : Int))) Q E s := by
  obtain ⟨os, hos, hcs, hds⟩ := id hs
  unfold Builtin.Slice.sliceApplied Builtin.Slice.sliceFields
  refine wpAny_bind (wpAny_bind (wpAny_field hos hds (x := .none) rfl (wpAny_bind (wpAny_field hos hds (x := .none) rfl (wpAny_bind (wpAny_field hos hds (x := vs) rfl (wpAny_pure ?_)))))))
  refine wpAny_bind (HT.slicePart_ ps ?_)
  show wpAny _ _ (if ((-1 : Int) == 0) = true then _ else _) _ _ s
  rw [if_neg (by decide)]
  refine wpAny_bind (PyProof.Rows.slicePart_none (wpAny_bind (PyProof.Rows.slicePart_none (wpAny_bind (wpAny_pure ?_)))))
  have e1 : Builtin.Slice.sliceAdjust none none (-1) (n : Int) = ((n : Int) - 1, -1) := by
    unfold Builtin.Slice.sliceAdjust
    simp
  have e2 : Builtin.Slice.slicePlaces ((n : Int) - 1) (-1) (-1) = n := by
    unfold Builtin.Slice.slicePlaces
    simp
    omega
  show wpAny _ _ (match Builtin.Slice.sliceAdjust none none (-1) (n : Int) with | (lo, hi) => pure (lo, (-1 : Int), Builtin.Slice.slicePlaces lo hi (-1))) _ _ s
  rw [e1]
  show wpAny _ _ (pure ((n : Int) - 1, (-1 : Int), Builtin.Slice.slicePlaces ((n : Int) - 1) (-1) (-1))) _ _ s
  rw [e2]
  exact wpAny_pure h
theorem fm_congr {α β : Type} (f g : α → Option β) : ∀ (l : List α), (∀ x ∈ l, f x = g x) → l.filterMap f = l.filterMap g
  | [], _ => rfl
  | x :: r, h => by
    rw [List.filterMap_cons, List.filterMap_cons, h x List.mem_cons_self, fm_congr f g r fun y hy => h y (List.mem_cons_of_mem _ hy)]
theorem pick_rev (xs : Array Value) : ((List.range xs.size).filterMap fun (k : Nat) => xs[(((xs.size : Int) - 1) + (k : Int) * (-1)).toNat]?).toArray = xs.toList.reverse.toArray := by
  have e : ∀ l : List Nat, (∀ k ∈ l, k < xs.size) → (l.filterMap fun (k : Nat) => xs[(((xs.size : Int) - 1) + (k : Int) * (-1)).toNat]?) = l.filterMap fun k => xs.toList.reverse[k]? := fun l hl => by
    refine fm_congr _ _ l fun k hk => ?_
    have h1 := hl k hk
    have h2 : (((xs.size : Int) - 1) + (k : Int) * (-1)).toNat = xs.size - 1 - k := by omega
    rw [h2, List.getElem?_reverse (by simpa using h1)]
    simp
  rw [e _ fun k hk => List.mem_range.mp hk]
  have h3 : ∀ (l : List Value), ((List.range l.length).filterMap fun k => l[k]?) = l := fun l => by
    refine List.ext_getElem? fun i => ?_
    have : (List.range l.length).filterMap (fun k => l[k]?) = (List.range l.length).map fun k => l.getD k .none := by
      rw [← List.filterMap_eq_map]
      refine fm_congr _ _ _ fun k hk => ?_
      have := List.mem_range.mp hk
      simp [List.getD, List.getElem?_eq_getElem this]
    rw [this, List.getElem?_map]
    by_cases hi : i < l.length
    · simp [hi, List.getD]
    · simp [hi]
  have := h3 xs.toList.reverse
  rw [List.length_reverse, Array.length_toList] at this
  rw [this]
theorem getItem_tuple_rev {t sl : Addr} {items : Array Value} {vs : Value} {Q : Value → Shared → Prop} (ht : IsTup s.heap t items) (hs : s.heap.IsSliceOf sl .none .none vs) (ps : IsPart vs (some (-1)))
    (h : Q (.ref s.heap.objs.size) { s with heap := s.heap.push { cls := .type "tuple", data := .seq items.toList.reverse.toArray } })
    (hsz : items.size ≤ sizeLine) : wpAny (model prog w) A (getItem (.ref t) (.ref sl)) Q E s := by
  have htake : sizeOk (.seq items.toList.reverse.toArray) := by
    show items.toList.reverse.toArray.size ≤ sizeLine
    simpa using hsz
  obtain ⟨os, hos, hcs, hds⟩ := id hs
  have hTs : s.TypeIs (.ref sl) "slice" := ⟨os, hos, hcs⟩
  unfold getItem
  try with_reducible refine wpAny_holding ?_
  first | refine wpAny_bind (wpAny_pure ?_) | skip
  refine wpAny_bind (wpAny_sequenceKey ht.typeIs (by decide) ?_)
  refine wpAny_bind (wpAny_callSpecial?_slot (name := Str.ofString "__getitem__") ht.typeIs PyProof.Rows.slot_tuple_getitem
    (wpAny_call_entry PyProof.Rows.slot_tuple_getitem ht.typeIs PyProof.Rows.entry_tuple_getitem ?_ (PyProof.Rows.args_tuple_getitem _ _)))
  show wpAny _ _ (Builtin.Tuple.tupleItemsOf (.ref t) >>= _) _ _ s
  refine wpAny_bind (PyProof.Rows.tupleItemsOf_ ht ?_)
  refine wpAny_bind (wpAny_typeOf hTs ?_)
  rw [if_pos (by decide)]
  refine wpAny_bind (applied_rev hs ps ?_)
  have hno : ¬ ((((items.size : Int) - 1) == 0 && (-1 : Int) == 1 && items.size == items.size) = true) := by
    intro q
    rw [Bool.and_eq_true, Bool.and_eq_true] at q
    exact absurd q.1.2 (by decide)
  show wpAny _ _ (if (((items.size : Int) - 1) == 0 && (-1 : Int) == 1 && items.size == items.size) = true then _ else _) _ _ s
  rw [if_neg hno, pick_rev]
  first
    | exact wpAny_bind (m := Builtin.Tuple.tupleExact _) (wpAny_newObj_type (wpAny_pure ⟨_, rfl, wpAny_pure h⟩) htake)
    | exact wpAny_bind (m := Builtin.Tuple.tupleExact _) (wpAny_newObj_type (wpAny_bind (wpAny_pure (wpAny_pure ⟨_, rfl, wpAny_pure h⟩))) htake)
    | exact wpAny_bind (wpAny_bind (m := Builtin.Tuple.tupleExact _) (wpAny_newObj_type (wpAny_pure (wpAny_pure ⟨_, rfl, wpAny_pure h⟩)) htake))
    | exact wpAny_bind (wpAny_bind (m := Builtin.Tuple.tupleExact _) (wpAny_newObj_type (wpAny_pure ⟨_, rfl, wpAny_pure h⟩) htake))
end
def tRevE (K : PySem.W.Frag) (te : TE) : TE := fun σ H Q => te σ H fun x H1 =>
  (∃ a xs, x = .ref a ∧ SqL K H1 a xs ∧ ∀ p, H1 p = none → Q (.ref p) (upd H1 p (.lst xs.reverse))) ∨
  (∃ a xs, x = .ref a ∧ SqT K H1 a xs ∧ NewT H1 Q xs.reverse) ∨
  ∃ z, x = .str z ∧ z.length ≤ sizeLine ∧ Q (.str (revS z)) H1
section
variable {X : Cx} {e : Expr}
theorem pe_revE {te : TE} {k : Nat} {p1 p2 p3 pos : Pos} (he : PE X e te) : PE X (.Subscript e (.Slice none none (some (.UnaryOp .USub (.Constant (.int 1) k p1) p2)) p3) pos) (tRevE X.K te) := by
  refine ⟨fun pins s σ H Q I h => ?_⟩
  refine Subscript_ (thn (he.run pins s σ H _ I h) fun v s1 ⟨x, H1, I1, r1, q1⟩ => ?_)
  have hst : PO X (some (.UnaryOp .USub (.Constant (.int 1) k p1) p2)) (tPart (tUn (rU fun i => .int (-i)) (tC (.int 1)))) := po_some (pe_un un_neg pe_int)
  refine wpAny_Slice (thn (po_none.run pins s1 σ H1 (fun o H2 => o = none ∧ H2 = H1) I1 ⟨rfl, rfl⟩) fun vl s2 ⟨l, H2, I2, pl, el, e2⟩ => ?_)
  subst el e2
  refine thn (po_none.run pins s2 σ H2 (fun o H3 => o = none ∧ H3 = H2) I2 ⟨rfl, rfl⟩) fun vu s3 ⟨u, H3, I3, pu, eu, e3⟩ => ?_
  subst eu e3
  refine thn (hst.run pins s3 σ H3 (fun o H4 => o = some (-1) ∧ H4 = H3) I3 ⟨1, rfl, -1, rfl, rfl, rfl⟩) fun vs s4 ⟨o, H4, I4, ps, eo, e4⟩ => ?_
  subst eo e4
  have I5 : Inv X pins σ H4 { s4 with heap := s4.heap.push { cls := .type "slice", data := .fields #[vl, vu, vs] } } := I4.kept (t' := s4.toks) fun b ob q => Heap.get?_push_of_some _ q
  have vl0 : vl = .none := by
    obtain ⟨l', e1, e2⟩ := IsPart.raw pl
    cases l' with
    | none => exact e1
    | some q => cases e2
  have vu0 : vu = .none := by
    obtain ⟨l', e1, e2⟩ := IsPart.raw pu
    cases l' with
    | none => exact e1
    | some q => cases e2
  show wpAny (model X.prog X.w) X.A (subscriptTail e (.Slice none none (some (.UnaryOp .USub (.Constant (.int 1) k p1) p2)) p3) v (.ref s4.heap.objs.size)) (EP X pins σ Q) X.xe { s4 with heap := s4.heap.push { cls := .type "slice", data := .fields #[vl, vu, vs] } }
  rcases q1 with ⟨a, xs, ex, hx, q⟩ | ⟨a, xs, ex, hx, q⟩ | ⟨z, ex, hz, q⟩
  · subst ex
    cases r1
    obtain ⟨its, r, ht, hz⟩ := I5.list hx
    have hlen := r.length
    refine tail_any (ops := [.ref a, .ref s4.heap.objs.size]) ht.isList.typeIs (PySem.slot_list_getitem.lookup) ?_ (by with_unfolding_all rfl)
    refine wpAny_getItem_list_slice ht.isList (Heap.IsSliceOf.new _ vl vu vs) pl pu ps (by decide) ?_ (by rw [List.size_toArray]; omega)
    rw [PySem.W.krv_pick]
    refine ⟨.ref _, _, I5.laid (t' := s4.toks) (o := .lst xs.reverse) (fun b ob q => Heap.get?_push_of_some _ q) (Nat.le_refl _) ?_, rfl, q _ (I5.hok.fresh (Nat.le_refl _))⟩
    exact ⟨by rw [List.length_reverse]; exact hz, _, 0, r.reverse, Heap.get?_push_size _ rfl⟩
  · subst ex
    cases r1
    obtain ⟨its, r, ht, hz⟩ := I5.tuple hx
    have hlen := r.length
    have hsl : (s4.heap.push { cls := .type "slice", data := .fields #[vl, vu, vs] }).IsSliceOf s4.heap.objs.size .none .none vs := by
      have := Heap.IsSliceOf.new s4.heap vl vu vs
      rw [vl0, vu0] at this ⊢
      exact this
    refine tail_any (ops := [.ref a, .ref s4.heap.objs.size]) ht.typeIs PyProof.Rows.slot_tuple_getitem.lookup ?_ (by with_unfolding_all rfl)
    refine getItem_tuple_rev ht hsl ps ?_ (by rw [List.size_toArray]; omega)
    exact ⟨.ref _, _, laidT I5 r.reverse (by rw [List.length_reverse]; exact hz), rfl, newT I5 q⟩
  · subst ex
    obtain ⟨t, rfl⟩ := r1
    obtain ⟨l1, e1, e2⟩ := IsPart.raw ps
    obtain ⟨os, hos, hcs, hds⟩ := Heap.IsSliceOf.new s4.heap vl vu vs
    cases l1 with
    | none => cases e2
    | some pr =>
      obtain ⟨j, tj⟩ := pr
      have ej : j = -1 := by cases e2; rfl
      subst ej
      refine tail_any (ops := [.str z t, .ref s4.heap.objs.size]) (typeIs_str _ _ _) F.slot_str_getitem.lookup ?_ (by with_unfolding_all rfl)
      refine wpAny_getItem_str_slice (l := none) (u := none) (st := some (-1, tj)) ⟨os, hos, hcs, by rw [hds, vl0, vu0, e1]; rfl⟩ rfl ?_
      have hs : Txt.sliceBy z none none (-1, tj) = revS z := by
        rw [← sliceBy_rev]
        rfl
      have hl : (revS z).length ≤ sizeLine := by
        have : (revS z).length = z.length := by simp [revS, Str.length]
        omega
      have no : ¬ ((((some ((-1 : Int), tj)).map (·.1)).getD 1 == 1 && ((slicePicked z none none (some (-1, tj))).length == z.length)) = true) := by
        intro q
        rw [Bool.and_eq_true] at q
        exact absurd (show ((-1 : Int) == 1) = true from q.1) (by decide)
      unfold sliceMade
      rw [if_neg no]
      unfold Txt.sliceBy at hs
      rw [if_neg no] at hs
      rw [hs]
      exact ⟨hl, .str _, H4, I5.tok _, ⟨_, rfl⟩, q⟩
theorem e_rev {te : WE} {k : Nat} {p1 p2 p3 pos : Pos} (he : EB X e te) : EE X (.Subscript e (.Slice none none (some (.UnaryOp .USub (.Constant (.int 1) k p1) p2)) p3) pos) (w1 pRevE te) :=
  PE.imp (pe_revE he) fun σ H Q ⟨pn, F, env, b, P, rep, t, k⟩ => by
    refine ⟨pn, F, env, b, _, rep, t, fun v x F1 H1 b1 o1 e1 bv t1 => ?_⟩
    have go : Go X.K pn b1 F1 H1 (fun z => P z b1) Q := fun w z F' H' o4 e4 rv q => k w z F' H' b1 o4 (e1.trans e4) rv q
    match x, t1 with
    | .list xs, q =>
      obtain ⟨a, vs, rfl, h1, r1⟩ := bv.list o1
      exact .inl ⟨a, vs, rfl, SqL.of h1, go.lst o1 r1.rev q⟩
    | .tuple xs, q =>
      obtain ⟨a, vs, rfl, h1, r1⟩ := bv.tup o1
      exact .inr (.inl ⟨a, vs, rfl, h1, go.tup o1 r1.rev q⟩)
    | .str z, ⟨hl, q⟩ => exact .inr (.inr ⟨z, bv.str, hl, k _ _ F1 H1 b1 o1 e1 (.str _) q⟩)
end
def eRevE : PyData → Option PyData
  | .list xs => some (.list xs.reverse)
  | .tuple xs => some (.tuple xs.reverse)
  | .str z => if z.length ≤ sizeLine then some (.str (revS z)) else none
  | _ => none
theorem h1_revE : H1 pRevE eRevE := fun x P r q k => by
  cases x <;> first | (cases q; exact k) | (obtain ⟨c, e⟩ := ite_some q; subst e; exact ⟨c, k⟩) | cases q
end Pu
namespace Pu
open PySem PySem.Spec PyProof.Rows L2 SeqAt PuS
def tx (l : List Nat) : Str := ⟨l.toArray⟩
def Ls (z : Str) : List Nat := z.cps.toList
abbrev sg (c : Nat) : PyData := .str ⟨#[c]⟩
theorem Ls_tx (l : List Nat) : Ls (tx l) = l := by simp [tx, Ls]
theorem str_inj {x y : Str} (h : Ls x = Ls y) : x = y := PySem.W.str_of_cps h
theorem len_Ls (z : Str) : z.length = (Ls z).length := by simp [Ls, Str.length]
theorem seq_str (z : Str) : seqOf (.str z) = some ((Ls z).map sg) := rfl
def isS (s : Str) : PyData → Bool
  | .str w => decide (w = s)
  | _ => false
def isOf (ws : List Str) (x : PyData) : Bool := ws.any fun s => isS s x
theorem beq_dec (x y : Str) : (x == y) = decide (x = y) := rfl
theorem eqv_str (x : PyData) (s : Str) : PyData.eqv x (.str s) = isS s x := by cases x <;> simp [PyData.eqv, isS, beq_dec]
theorem eqv_strL (x : PyData) (s : Str) : PyData.eqv (.str s) x = isS s x := by cases x <;> simp [PyData.eqv, isS, beq_dec, eq_comm]
theorem eq_str (x : PyData) (s : Str) : eEq x (.str s) = some (.bool (isS s x)) := by
  unfold eEq
  rw [if_pos (by simp [dfree, PyData.depth]), eqv_str]
theorem dfree_strs : ∀ ws : List Str, dfreeAll (ws.map .str) = true
  | [] => rfl
  | w :: ws => by simp [dfreeAll, dfree, dfree_strs ws]
theorem depth_strs : ∀ ws : List Str, PyData.depthAll (ws.map .str) = 0
  | [] => rfl
  | w :: ws => by simp [PyData.depthAll, PyData.depth, depth_strs ws]
theorem any_strs (x : PyData) : ∀ ws : List Str, ((ws.map PyData.str).any fun z => PyData.eqv z x) = isOf ws x
  | [] => rfl
  | w :: ws => by
    have := any_strs x ws
    simp only [List.map_cons, List.any_cons, isOf] at this ⊢
    rw [this, eqv_strL]
theorem inL_strs {neg : Bool} {x y : PyData} {ws : List Str} (h : itemsD y = some (ws.map .str)) : eInL neg x y = some (.bool (neg ^^ isOf ws x)) := by
  unfold eInL
  rw [h]
  show (if _ then _ else _) = _
  rw [if_pos (by simp [dfree_strs, depth_strs]), any_strs]
theorem in_tup {neg : Bool} (ws : List Str) (x : PyData) : eIn neg x (.tuple (ws.map .str)) = some (.bool (neg ^^ isOf ws x)) := by
  have e : eIn neg x (.tuple (ws.map .str)) = eInL neg x (.tuple (ws.map .str)) := by cases x <;> rfl
  rw [e, inL_strs rfl]
theorem in_lst {neg : Bool} (ws : List Str) (x : PyData) : eIn neg x (.list (ws.map .str)) = some (.bool (neg ^^ isOf ws x)) := by
  have e : eIn neg x (.list (ws.map .str)) = eInL neg x (.list (ws.map .str)) := by cases x <;> rfl
  rw [e, inL_strs rfl]
theorem in_sg {neg : Bool} (c : Nat) (z : Str) : eIn neg (sg c) (.str z) = some (.bool (neg ^^ decide (c ∈ Ls z))) := by
  show some (PyData.bool (neg ^^ !(Builtin.Str.occurrences z ⟨#[c]⟩ 0 z.length 1).isEmpty)) = _
  rw [StrLaws.found_one]
  rfl
def oneIn (K : List Nat) (w : Str) : Bool := match Ls w with
  | [c] => decide (c ∈ K)
  | _ => false
theorem one_eq {w : Str} {c : Nat} : w = (⟨#[c]⟩ : Str) ↔ Ls w = [c] := ⟨fun h => by subst h; rfl, fun h => str_inj (by rw [h]; rfl)⟩
theorem oneIn_true {K : List Nat} {w : Str} : oneIn K w = true ↔ ∃ c, w = ⟨#[c]⟩ ∧ c ∈ K := by
  unfold oneIn
  constructor
  · intro h
    split at h
    · rename_i c e; exact ⟨c, one_eq.mpr e, of_decide_eq_true h⟩
    · cases h
  · rintro ⟨c, e, h⟩
    rw [one_eq] at e
    rw [e]
    simpa using h
theorem isOf_one (K : List Nat) (w : Str) : isOf (K.map fun c => (⟨#[c]⟩ : Str)) (.str w) = oneIn K w := by
  rw [Bool.eq_iff_iff, oneIn_true]
  simp [isOf, isS]
  constructor
  · rintro ⟨c, h, e⟩; exact ⟨c, e, h⟩
  · rintro ⟨c, e, h⟩; exact ⟨c, h, e⟩
theorem map_sg (K : List Nat) : K.map sg = (K.map fun c => (⟨#[c]⟩ : Str)).map .str := by simp
theorem in_chs {neg : Bool} (K : List Nat) (w : Str) : eIn neg (.str w) (.list (K.map sg)) = some (.bool (neg ^^ oneIn K w)) := by
  rw [map_sg, in_lst, isOf_one]
theorem len_str {z : Str} (h : (Ls z).length ≤ 1000) : eLen (.str z) = some (.int (Ls z).length) := by
  show (if z.length ≤ sizeLine then some (PyData.int z.length) else none) = _
  rw [len_Ls, if_pos (by rw [sizeLine_eq]; omega)]
theorem tru_str {z : Str} (h : (Ls z).length ≤ 1000) : eTru (.str z) = some (!(Ls z).isEmpty) := by
  show (if z.length ≤ sizeLine then some ((z.length : Int) != 0) else none) = _
  rw [len_Ls, if_pos (by rw [sizeLine_eq]; omega)]
  cases Ls z with
  | nil => rfl
  | cons c r => simp; omega
theorem strsOf_map : ∀ ws : List Str, strsOf (ws.map .str) = some ws
  | [] => rfl
  | w :: ws => by simp [strsOf, strsOf_map ws]
theorem joinL_ones : ∀ l : List Nat, TL.joinL [] (l.map fun c => [c]) = l
  | [] => rfl
  | [c] => rfl
  | c :: d :: r => by
    have := joinL_ones (d :: r)
    simp only [List.map_cons] at this ⊢
    show [c] ++ ([] ++ TL.joinL [] ([d] :: r.map fun c => [c])) = _
    rw [this]
    rfl
theorem sum_ones : ∀ l : List Nat, ((l.map fun c => (⟨#[c]⟩ : Str)).map (·.length)).sum = l.length
  | [] => rfl
  | c :: l => by
    have := sum_ones l
    simp only [List.map_cons, List.sum_cons, List.length_cons, this]
    show 1 + l.length = _
    omega
theorem join_sg {l : List Nat} (h : l.length ≤ 1000) : eJoin "" (.list (l.map sg)) = some (.str (tx l)) := by
  rw [map_sg]
  show ((strsOf (List.map PyData.str _)).bind _) = _
  rw [strsOf_map]
  have e0 : (Str.ofString "").length = 0 := rfl
  have e : Txt.join "" (l.map fun c => (⟨#[c]⟩ : Str)) = tx l := by
    refine str_inj ?_
    rw [TL.join_eq]
    show TL.tl _ = _
    rw [TL.tl_join, Ls_tx]
    have : (l.map fun c => (⟨#[c]⟩ : Str)).map TL.tl = l.map fun c => [c] := by simp [TL.tl]
    rw [this]
    exact joinL_ones l
  show (if _ then _ else _) = _
  rw [if_pos (by rw [sum_ones, e0]; omega), e]
theorem bools_map {α : Type} (f : α → Bool) : ∀ xs : List α, boolsOf (xs.map fun x => .bool (f x)) = some (xs.map f)
  | [] => rfl
  | x :: xs => by simp [boolsOf, bools_map f xs]
theorem all_map {α : Type} (f : α → Bool) (xs : List α) : eAll (.list (xs.map fun x => .bool (f x))) = some (.bool (xs.all f)) := by
  show (boolsOf _).map _ = _
  rw [bools_map]
  simp
theorem snoc_ind {α : Type} {P : List α → Prop} (h0 : P []) (h1 : ∀ l k, P l → P (l ++ [k])) (l : List α) : P l := by
  have : ∀ r : List α, P r.reverse := fun r => by
    induction r with
    | nil => exact h0
    | cons x r ih => rw [List.reverse_cons]; exact h1 _ _ ih
  have := this l.reverse
  rwa [List.reverse_reverse] at this
theorem mem_distA {κ : Type} [DecidableEq κ] (l : List κ) : ∀ x : κ, x ∈ dist l ↔ x ∈ l := by
  induction l using snoc_ind with
  | h0 => simp [dist]
  | h1 l k ih =>
    intro x
    rw [dist_snoc]
    unfold dstep
    split
    · rename_i h
      rw [ih] at h
      rw [ih]
      simp
      intro e
      subst e
      exact h
    · simp [ih]
theorem mem_dist {κ : Type} [DecidableEq κ] {x : κ} (l : List κ) : x ∈ dist l ↔ x ∈ l := mem_distA l x
theorem dist_nodup {κ : Type} [DecidableEq κ] (l : List κ) : (dist l).length = l.length ↔ l.Nodup := by
  induction l using snoc_ind with
  | h0 => simp [dist]
  | h1 l k ih =>
    rw [dist_snoc]
    have h1 := dist_len l
    unfold dstep
    split
    · rename_i h
      rw [mem_dist] at h
      rw [List.length_append]
      constructor
      · intro e; simp at e; omega
      · intro nd
        rw [List.nodup_append] at nd
        exact absurd rfl (nd.2.2 k h k (by simp))
    · rename_i h
      rw [mem_dist] at h
      rw [List.length_append, List.length_append]
      constructor
      · intro e
        have := ih.mp (by simpa using e)
        rw [List.nodup_append]
        exact ⟨this, by simp, fun a ha b hb => by simp at hb; subst hb; intro e; subst e; exact h ha⟩
      · intro nd
        rw [List.nodup_append] at nd
        have := ih.mpr nd.1
        simp [this]
theorem ofStr_eq (z : Str) : ofStr z = (Ls z).map fun c => (Sum.inr (⟨#[c]⟩ : Str) : Key) := rfl
theorem nodup_ofStr (z : Str) : (ofStr z).Nodup ↔ (Ls z).Nodup := by
  rw [ofStr_eq]
  show List.Pairwise _ _ ↔ List.Pairwise _ _
  rw [List.pairwise_map]
  simp
/-- len(set(z)) == len(z) -/
theorem nodup_eq (z : Str) : eEq (.int (dist (ofStr z)).length) (.int (Ls z).length) = some (.bool (decide (Ls z).Nodup)) := by
  show some (PyData.bool (((dist (ofStr z)).length : Int) == ((Ls z).length : Int))) = _
  refine congrArg (fun b => some (PyData.bool b)) ?_
  rw [Bool.eq_iff_iff]
  simp
  rw [← nodup_ofStr, ← dist_nodup (ofStr z), ofStr_eq, List.length_map]
  omega
theorem one_lt {a b : Nat} : sLt (⟨#[a]⟩ : Str) ⟨#[b]⟩ ↔ a < b := by
  show [a] < [b] ↔ _
  rw [List.cons_lt_cons_iff]
  simp
theorem asc_of : ∀ {l : List Str}, l.Pairwise sLt → asc l = l
  | [], _ => rfl
  | x :: r, h => by
    obtain ⟨h1, h2⟩ := List.pairwise_cons.mp h
    show insS x (asc r) = _
    rw [asc_of h2]
    cases r with
    | nil => rfl
    | cons y r =>
      have hl := h1 y List.mem_cons_self
      unfold insS
      rw [if_neg (fun e => sLt_irrefl y (by rw [e] at hl; exact hl)), if_pos hl]
theorem asc_ones (l : List Nat) : (l.map fun c => (⟨#[c]⟩ : Str)) = asc (l.map fun c => (⟨#[c]⟩ : Str)) ↔ l.Pairwise (· < ·) := by
  have e : (l.map fun c => (⟨#[c]⟩ : Str)).Pairwise sLt ↔ l.Pairwise (· < ·) := by
    rw [List.pairwise_map]
    exact ⟨fun h => h.imp fun {a b} q => one_lt.mp q, fun h => h.imp fun {a b} q => one_lt.mpr q⟩
  rw [← e]
  exact ⟨fun h => by rw [h]; exact asc_asc _, fun h => (asc_of h).symm⟩
theorem eqv_strs : ∀ as bs : List Str, PyData.eqvAll (as.map .str) (bs.map .str) = decide (as = bs)
  | [], [] => rfl
  | [], _ :: _ => rfl
  | _ :: _, [] => rfl
  | a :: as, b :: bs => by
    simp only [List.map_cons, PyData.eqvAll, PyData.eqv, eqv_strs as bs, beq_dec]
    rw [Bool.eq_iff_iff]
    simp
theorem eq_strs (as bs : List Str) : eEq (.list (as.map .str)) (.list (bs.map .str)) = some (.bool (decide (as = bs))) := by
  unfold eEq
  rw [if_pos (by simp [dfree, dfree_strs, PyData.depth, depth_strs])]
  simp only [PyData.eqv, eqv_strs]
/-- list(z) == sorted(set(z)) -/
theorem sorted_eq (z : Str) : eEq (.list ((Ls z).map sg)) (.list ((asc ((Ls z).map fun c => (⟨#[c]⟩ : Str))).map .str)) = some (.bool (decide ((Ls z).Pairwise (· < ·)))) := by
  rw [map_sg, eq_strs]
  refine congrArg (fun b => some (PyData.bool b)) ?_
  rw [Bool.eq_iff_iff]
  simp [asc_ones]
theorem eq_nilL (xs : List PyData) : eEq (.list xs) (.list []) = some (.bool xs.isEmpty) := by
  unfold eEq
  rw [if_pos (by simp [dfree, dfreeAll, PyData.depth, PyData.depthAll]; try omega)]
  cases xs <;> simp [PyData.eqv, PyData.eqvAll]
def isT0 : PyData → Bool
  | .tuple [] => true
  | _ => false
theorem eq_tup0 (x : PyData) : eEq x (.tuple []) = some (.bool (isT0 x)) := by
  unfold eEq
  rw [if_pos (by simp [dfree, dfreeAll, PyData.depth, PyData.depthAll]; try omega)]
  cases x with
  | tuple xs => cases xs <;> simp [PyData.eqv, PyData.eqvAll, isT0]
  | _ => simp [PyData.eqv, isT0]
theorem canLay_strs : ∀ {ws : List Str}, (∀ w ∈ ws, PyData.strOk w = true) → PyData.canLayAll0 (ws.map .str) = true
  | [], _ => rfl
  | w :: ws, h => by simp [PyData.canLayAll0, PyData.canLay0, h w List.mem_cons_self, canLay_strs fun v hv => h v (List.mem_cons_of_mem _ hv)]
theorem ok_ones {l : List Nat} (h : ∀ c ∈ l, c < 0x110000) : ∀ w ∈ l.map fun c => (⟨#[c]⟩ : Str), PyData.strOk w = true := fun w hw => by
  obtain ⟨c, hc, e⟩ := List.mem_map.mp hw
  subst e
  simp [PyData.strOk]
  exact h c hc
theorem ne_nilL {l : List Nat} (h : ∀ c ∈ l, c < 0x110000) : eNe (.list (l.map sg)) (.list []) = some (.bool (!l.isEmpty)) := by
  unfold eNe
  have s1 : SeqAt.shaped (.list (l.map sg)) = true := by
    have a := canLay_strs (ok_ones h)
    have b := depth_strs (l.map fun c => (⟨#[c]⟩ : Str))
    rw [← map_sg] at a b
    simp only [SeqAt.shaped, PyData.canLay0, PyData.depth, a, b]
    rfl
  rw [if_pos (by rw [s1]; rfl)]
  cases l <;> simp [PyData.eqv, PyData.eqvAll]
theorem cut_to (l : List Nat) (k : Nat) (h : k ≤ l.length) : cutS (tx l) none (some (k : Int)) = tx (l.take k) := by
  unfold cutS
  have e : (tx l).length = l.length := by simp [tx, Str.length]
  rw [HT.sIx_none, HT.sIx_nat, e, Nat.min_eq_left h]
  simp [tx]
theorem cut_from (l : List Nat) (k : Nat) (h : k ≤ l.length) : cutS (tx l) (some (k : Int)) none = tx (l.drop k) := by
  unfold cutS
  have e : (tx l).length = l.length := by simp [tx, Str.length]
  rw [HT.sIx_none, HT.sIx_nat, e, Nat.min_eq_left h]
  simp only [tx, List.toList_toArray]
  rw [List.take_of_length_le (by rw [List.length_drop]; exact Nat.le_refl _)]
theorem cutD_to (l : List PyData) (k : Nat) : cutD l none (some (k : Int)) = l.take k := by
  unfold cutD
  rw [HT.sIx_none, HT.sIx_nat]
  by_cases h : k ≤ l.length
  · rw [Nat.min_eq_left h]; simp
  · rw [Nat.min_eq_right (by omega)]
    simp
    rw [List.take_of_length_le (by omega)]
theorem cutD_from (l : List PyData) (k : Nat) : cutD l (some (k : Int)) none = l.drop k := by
  unfold cutD
  rw [HT.sIx_none, HT.sIx_nat]
  by_cases h : k ≤ l.length
  · rw [Nat.min_eq_left h, List.take_of_length_le (by rw [List.length_drop]; exact Nat.le_refl _)]
  · rw [Nat.min_eq_right (by omega)]
    simp
    omega
end Pu
namespace Pu
open PySem PySem.Spec PyProof.Rows L2 SeqAt PuS
theorem eq_int (i j : Int) : eEq (.int i) (.int j) = some (.bool (decide (i = j))) := by
  have : (i == j) = decide (i = j) := by rw [Bool.eq_iff_iff]; simp
  show some (PyData.bool (i == j)) = _
  rw [this]
theorem ne_int (i j : Int) : eNe (.int i) (.int j) = some (.bool (!decide (i = j))) := by
  have : (i == j) = decide (i = j) := by rw [Bool.eq_iff_iff]; simp
  show some (PyData.bool (!(i == j))) = _
  rw [this]
def okS (z : Str) : Prop := (Ls z).length ≤ 1000 ∧ ∀ c ∈ Ls z, c < 0x110000
mutual
def okR : PyData → Prop
  | .str z => okS z
  | .list xs => okRs xs
  | .tuple xs => okRs xs
  | _ => True
def okRs : List PyData → Prop
  | [] => True
  | x :: xs => okR x ∧ okRs xs
end
def isPl : PyData → Bool
  | .int _ => true
  | _ => false
theorem nodup_len : ∀ {l K : List Nat}, l.Nodup → (∀ c ∈ l, c ∈ K) → l.length ≤ K.length
  | [], _, _, _ => Nat.zero_le _
  | c :: r, K, nd, h => by
    obtain ⟨h1, h2⟩ := List.nodup_cons.mp nd
    have hc := h c List.mem_cons_self
    have ih := nodup_len (l := r) (K := K.erase c) h2 fun d hd => by
      have ne : d ≠ c := fun e => h1 (e ▸ hd)
      exact (List.mem_erase_of_ne ne).mpr (h d (List.mem_cons_of_mem _ hd))
    rw [List.length_erase_of_mem hc] at ih
    have : 0 < K.length := List.length_pos_of_mem hc
    simp only [List.length_cons]
    omega
theorem asc_nodup {l : List Nat} (h : l.Pairwise (· < ·)) : l.Nodup := h.imp fun {a b} q => Nat.ne_of_lt q
end Pu
namespace Pu
open PySem PySem.Spec PyProof.Rows L2 SeqAt PuS
theorem ix_t0 (a : PyData) (r : List PyData) : eIx (.tuple (a :: r)) (.int 0) = some a := atI_nat (j := 0) (xs := a :: r) rfl
theorem ix_t1 (a b : PyData) (r : List PyData) : eIx (.tuple (a :: b :: r)) (.int 1) = some b := atI_nat (j := 1) (xs := a :: b :: r) rfl
theorem ix_t2 (a b c : PyData) (r : List PyData) : eIx (.tuple (a :: b :: c :: r)) (.int 2) = some c := atI_nat (j := 2) (xs := a :: b :: c :: r) rfl
end Pu
namespace Pu
open PySem PySem.Spec PyProof.Rows L2 SeqAt PuS
theorem add_str {s t : Str} (h : (Ls s).length + (Ls t).length ≤ 100000) : eAdd (.str s) (.str t) = some (.str (tx (Ls s ++ Ls t))) := by
  show (if s.length + t.length ≤ sizeLine then some (PyData.str (s ++ t)) else none) = _
  rw [if_pos (by rw [len_Ls, len_Ls, sizeLine_eq]; omega)]
  have : s ++ t = tx (Ls s ++ Ls t) := str_inj (by rw [Ls_tx]; exact TL.tl_append s t)
  rw [this]
theorem sl_to {l : List Nat} {k : Nat} (h : l.length ≤ 1000) (hk : k ≤ l.length) : eSl none (some (k : Int)) (.str (tx l)) = some (.str (tx (l.take k))) := by
  show (if (tx l).length ≤ sizeLine then some (PyData.str (cutS (tx l) none (some (k : Int)))) else none) = _
  rw [if_pos (by rw [len_Ls, Ls_tx, sizeLine_eq]; omega), cut_to l k hk]
theorem sl_from {l : List Nat} {k : Nat} (h : l.length ≤ 1000) (hk : k ≤ l.length) : eSl (some (k : Int)) none (.str (tx l)) = some (.str (tx (l.drop k))) := by
  show (if (tx l).length ≤ sizeLine then some (PyData.str (cutS (tx l) (some (k : Int)) none)) else none) = _
  rw [if_pos (by rw [len_Ls, Ls_tx, sizeLine_eq]; omega), cut_from l k hk]
theorem add_tup {xs ys : List PyData} (h : xs.length + ys.length ≤ 100000) : eAdd (.tuple xs) (.tuple ys) = some (.tuple (xs ++ ys)) := if_pos (by rw [sizeLine_eq]; omega)
theorem add_lst {xs ys : List PyData} (h : xs.length + ys.length ≤ 100000) : eAdd (.list xs) (.list ys) = some (.list (xs ++ ys)) := if_pos (by rw [sizeLine_eq]; omega)
theorem mul_def (xs : List PyData) (k : Int) : eMul (.list xs) (.int k) = if -(2 ^ 63) ≤ k ∧ k < 2 ^ 63 ∧ xs.length * k.toNat ≤ sizeLine then some (.list (List.replicate k.toNat xs).flatten) else none := rfl
theorem mul_nat {xs : List PyData} (k : Nat) (h : xs.length * k ≤ 100000) (hk : k ≤ 1000) : eMul (.list xs) (.int (k : Int)) = some (.list (List.replicate k xs).flatten) := by
  have z := sizeLine_eq
  rw [mul_def, if_pos ⟨by omega, by omega, by rw [Int.toNat_natCast]; omega⟩, Int.toNat_natCast]
/-- x * int(test) -/
theorem mul_tst {xs : List PyData} (c : Bool) (h : xs.length ≤ 100000) : eMul (.list xs) (.int (if c then 1 else 0)) = some (.list (if c then xs else [])) := by
  cases c with
  | false =>
    have := mul_nat (xs := xs) 0 (by omega) (by omega)
    exact this
  | true =>
    have := mul_nat (xs := xs) 1 (by omega) (by omega)
    rw [show (List.replicate 1 xs).flatten = xs by simp] at this
    exact this
theorem replL_one (c : Nat) : ∀ l : List Nat, StrLaws.replL [c] [] l = l.filter fun d => decide (d ≠ c)
  | [] => StrLaws.replL_nil
  | d :: r => by
    by_cases e : d = c
    · subst e
      rw [StrLaws.replL_hit (by simp) (by simp)]
      show [] ++ StrLaws.replL [d] [] r = _
      rw [replL_one d r, List.filter_cons]
      simp
    · rw [StrLaws.replL_miss (by simpa using e), replL_one c r, List.filter_cons]
      simp [e]
theorem replace_one (z : Str) (c : Nat) : Txt.replace z ⟨#[c]⟩ Str.empty = tx ((Ls z).filter fun d => decide (d ≠ c)) := by
  refine str_inj ?_
  rw [Ls_tx]
  show (Txt.replace z ⟨#[c]⟩ Str.empty).cps.toList = _
  rw [StrLaws.replace_list (by show 1 ≤ 1; omega)]
  exact replL_one c (Ls z)
theorem n_pick {ic ip ir il : Nat} {wt wg : WD} {u : WS} {env : En} {n : Nat} {N : En → Nat → Prop} {R : PyData → Nat → Prop} {B C : En → Nat → Prop} {z : Str} (hc : env[ic]? = some (some (.d (.str z)))) (hp : env[ip]? = some (some .p)) (hl : (Ls z).length ≤ 1000)
    (h : MD wt [.p, .d (.int (Ls z).length)] n fun y m => ∃ i c, y = .int i ∧ atI (Ls z) i = some c ∧ MD wg [.p, .d (.str (tx ((Ls z).filter fun d => decide (d ≠ c))))] m fun d m2 => MS u ((env.set ir (some (.d (sg c)))).set il (some (.d d))) m2 N R B C) :
    MS (sPick ic ip ir il wt wg u) env n N R B C := fun PD b hb kn kr kb kc => by
  unfold sPick
  rw [hc, hp]
  refine ⟨by rw [len_Ls]; omega, ?_⟩
  rw [len_Ls]
  refine h b _ hb fun y m b1 ⟨i, c, ey, hat, hg⟩ hb1 => ?_
  subst ey
  show (match atI (Ls z) i with | some c => _ | none => False)
  rw [hat]
  show wg [.p, .d (.str (Txt.replace z ⟨#[c]⟩ Str.empty))] b1 _
  rw [replace_one]
  exact hg b1 _ hb1 fun d m2 b2 q hb2 => q PD b2 hb2 kn kr kb kc
end Pu
namespace Pu
open PySem PySem.Spec PyProof.Rows L2 SeqAt PuS
abbrev Rule : Type := List Nat × Nat
def ruD (p : Rule) : PyData := .tuple [.str (tx p.1), sg p.2]
def keD (k : List Nat) : PyData := .str (tx k)
def schD (K : List Nat) (rules : List Rule) (keys : List (List Nat)) : PyData := .tuple [.str (tx K), .tuple (rules.map ruD), .tuple (keys.map keD)]
structure ColsOk (K : List Nat) : Prop where
  asc : K.Pairwise (· < ·)
  few : K.length ≤ 5
  some : K ≠ []
  low : ∀ c ∈ K, c < 128
structure RulesOk (K : List Nat) (rules : List Rule) : Prop where
  one : ∀ p ∈ rules, p.1.Sublist K ∧ p.2 ∈ K ∧ p.2 ∉ p.1
  nodup : rules.Nodup
  few : rules.length ≤ 6
structure KeysOk (K : List Nat) (keys : List (List Nat)) : Prop where
  one : ∀ k ∈ keys, k.Sublist K ∧ k ≠ []
  nodup : keys.Nodup
  few : keys.length ≤ 4
theorem tx_inj {a b : List Nat} (h : tx a = tx b) : a = b := by
  have := congrArg Ls h
  rwa [Ls_tx, Ls_tx] at this
theorem sg_inj {a b : Nat} (h : (⟨#[a]⟩ : Str) = ⟨#[b]⟩) : a = b := by
  have := congrArg Ls h
  have : [a] = [b] := this
  exact List.head_eq_of_cons_eq this
theorem eqv_ru (p q : Rule) : PyData.eqv (ruD p) (ruD q) = decide (p = q) := by
  obtain ⟨a, b⟩ := p
  obtain ⟨c, d⟩ := q
  rw [Bool.eq_iff_iff, decide_eq_true_eq]
  show (decide (tx a = tx c) && (decide ((⟨#[b]⟩ : Str) = ⟨#[d]⟩) && true)) = true ↔ _
  rw [Bool.and_true, Bool.and_eq_true, decide_eq_true_eq, decide_eq_true_eq]
  constructor
  · rintro ⟨h1, h2⟩; rw [tx_inj h1, sg_inj h2]
  · intro h; cases h; exact ⟨rfl, rfl⟩
theorem dfree_ru : ∀ rules : List Rule, dfreeAll (rules.map ruD) = true
  | [] => rfl
  | p :: r => by simp [dfreeAll, dfree, ruD, dfree_ru r]
theorem depth_ru : ∀ rules : List Rule, PyData.depthAll (rules.map ruD) ≤ 1
  | [] => Nat.zero_le _
  | p :: r => by
    have := depth_ru r
    simp only [List.map_cons, PyData.depthAll, ruD, PyData.depth]
    simp
    omega
theorem in_rules {neg : Bool} (p : Rule) (rules : List Rule) : eIn neg (ruD p) (.list (rules.map ruD)) = some (.bool (neg ^^ decide (p ∈ rules))) := by
  show eInL neg (ruD p) (.list (rules.map ruD)) = _
  unfold eInL
  show (if _ then _ else _) = _
  have hd : ((dfreeAll (rules.map ruD) || dfree (ruD p)) && decide (min (PyData.depthAll (rules.map ruD)) (ruD p).depth ≤ 60)) = true := by
    have h1 := depth_ru rules
    have h2 : min (PyData.depthAll (rules.map ruD)) (ruD p).depth ≤ 60 := Nat.le_trans (Nat.min_le_left _ _) (by omega)
    rw [dfree_ru, Bool.true_or, Bool.true_and, decide_eq_true h2]
  rw [if_pos hd]
  refine congrArg (fun b => some (PyData.bool (neg ^^ b))) ?_
  rw [Bool.eq_iff_iff, List.any_eq_true, decide_eq_true_eq]
  constructor
  · rintro ⟨x, hx, e⟩
    obtain ⟨q, hq, rfl⟩ := List.mem_map.mp hx
    rw [eqv_ru, decide_eq_true_eq] at e
    exact e ▸ hq
  · intro h
    exact ⟨ruD p, List.mem_map.mpr ⟨p, h, rfl⟩, by rw [eqv_ru]; simp⟩
theorem in_keys {neg : Bool} (k : List Nat) (keys : List (List Nat)) : eIn neg (.str (tx k)) (.list (keys.map keD)) = some (.bool (neg ^^ decide (k ∈ keys))) := by
  have e : keys.map keD = (keys.map tx).map .str := by simp [keD]
  rw [e, in_lst]
  refine congrArg (fun b => some (PyData.bool (neg ^^ b))) ?_
  rw [Bool.eq_iff_iff, decide_eq_true_eq]
  simp [isOf, isS]
  constructor
  · rintro ⟨q, hq, e⟩; exact tx_inj e ▸ hq
  · intro h; exact ⟨k, h, rfl⟩
theorem ix_nat {xs : List PyData} {k : Nat} (h : k < xs.length) : eIx (.list xs) (.int (k : Int)) = some xs[k] := atI_nat (List.getElem?_eq_getElem h)
theorem ix_natT {xs : List PyData} {k : Nat} (h : k < xs.length) : eIx (.tuple xs) (.int (k : Int)) = some xs[k] := atI_nat (List.getElem?_eq_getElem h)
/-- a written list of numbers at a drawn place -/
theorem ix_ints {ns : List Int} {k : Nat} (h : k < ns.length) : eIx (.list (ns.map .int)) (.int (k : Int)) = some (.int ns[k]) := by
  rw [ix_nat (by simpa using h)]
  simp
/-- a sign of a text -/
theorem ix_str {l : List Nat} {k : Nat} (h : k < l.length) (hl : l.length ≤ 1000) : eIx (.str (tx l)) (.int (k : Int)) = some (sg l[k]) := by
  show (if (tx l).length ≤ sizeLine then _ else _) = _
  rw [len_Ls, Ls_tx, if_pos (by rw [sizeLine_eq]; omega)]
  have : atI (tx l).cps.toList (k : Int) = some l[k] := by
    show atI (Ls (tx l)) _ = _
    rw [Ls_tx]
    exact atI_nat (List.getElem?_eq_getElem h)
  rw [this]
  rfl
/-- .. the last one -/
theorem ix_last {l : List Nat} (h : l ≠ []) (hl : l.length ≤ 1000) : eIx (.str (tx l)) (.int (-1)) = some (sg (l.getLast h)) := by
  show (if (tx l).length ≤ sizeLine then _ else _) = _
  rw [len_Ls, Ls_tx, if_pos (by rw [sizeLine_eq]; omega)]
  have hp : 0 < l.length := List.length_pos_iff.mpr h
  have : atI (tx l).cps.toList (-1) = some (l.getLast h) := by
    show atI (Ls (tx l)) _ = _
    rw [Ls_tx]
    unfold atI ixN
    rw [if_neg (by decide), if_pos (by omega)]
    have e : ((l.length : Int) + (-1)).toNat = l.length - 1 := by omega
    show l[((-1 : Int) + (l.length : Int)).toNat]? = _
    rw [show ((-1 : Int) + (l.length : Int)).toNat = l.length - 1 by omega, List.getLast_eq_getElem]
    exact List.getElem?_eq_getElem _
  rw [this]
  rfl
end Pu
namespace PuT
open PySem PySem.Spec PyProof.Rows L2
open AutoSeq1 (wpAny_loadPart')
section
variable {prog : Program} {w : World} {A : Around} {E : Value → Shared → Prop} {s : Shared}
theorem code_tuple_str {Q₁ : Value → Shared → Prop} (hh : A.handled = none) (x : Str) (t : Tok) (hn : x.cps.size ≤ sizeLine)
    (h : ∀ (h' : Heap) (tk : Nat) (acc : Array Value), (∀ b o, s.heap.get? b = some o → h'.get? b = some o) → ItemsOf (SignAt x) acc x.cps.size →
      Q₁ (.ref h'.objs.size) { s with heap := h'.push { cls := .type "tuple", data := .seq acc }, toks := tk }) :
    codeAny (model prog w) A (.call (.builtin "tuple.__new__") ⟨[.type "tuple", .str x t], []⟩) (wants Q₁ E) s := by
  refine codeAny_of_tree ?_
  show wpAny _ A.in1 (do checkBuiltinCall "tuple.__new__" ⟨[.type "tuple", .str x t], []⟩; again (.builtin "tuple.__new__" ⟨[.type "tuple", .str x t], []⟩)) _ _ s
  refine wpAny_bind (wpAny_of_eq (F.newCall_tuple_1 _) (wpAny_pure ⟨plainId_quiet F.plain_tuple_new _, codeAny_builtin F.entry_tuple_new ?_⟩))
  rw [Around.under_plainId F.plain_tuple_new _]
  have hsub := sub_tuple_self
  have hinit := init_tuple_lookup
  have hmh := madeHere_tuple
  have hTI : s.TypeIs (.str x t) "str" := rfl
  have hh1 : A.in1.handled = none := hh
  have col : ∀ {Q : List Value → Shared → Prop} {E' : Value → Shared → Prop}, (∀ h' tk acc, (∀ b o, s.heap.get? b = some o → h'.get? b = some o) → ItemsOf (SignAt x) acc x.cps.size → Q acc.toList { s with heap := h', toks := tk }) → wpAny (model prog w) A.in1 (collect (.str x t)) Q E' s := fun {Q E'} hQ =>
    wpAny_collect_str hh1 x t (fun s' acc k1 k2 k3 k4 hi => by
      obtain ⟨h', g', d', tk', os'⟩ := s'
      simp only at k1 k2 k3 k4
      subst k2 k3 k4
      exact hQ h' tk' acc k1 hi) hn
  wp_walk using wpAny_typeOf hTI, col
  intro h' tk acc hk hacc
  show wpAny _ _ (Builtin.Tuple.tupleExact acc.toList.toArray >>= fun v => ret v) _ _ _
  unfold Builtin.Tuple.tupleExact
  refine wpAny_bind (wpAny_newObj_type ?_ (by show acc.toList.toArray.size ≤ sizeLine; simp only [Array.toArray_toList]; rw [hacc.1]; exact hn))
  refine wpAny_pure ?_
  have e : acc.toList.toArray = acc := by simp
  rw [e]
  exact h h' tk acc hk hacc
theorem call_tuple_text {Q : Value → Shared → Prop} (hh : A.handled = none) (x : Str) (t : Tok) (hn : x.cps.size ≤ sizeLine)
    (hQ : ∀ (h' : Heap) (tk : Nat) (acc : Array Value), (∀ b o, s.heap.get? b = some o → h'.get? b = some o) → ItemsOf (SignAt x) acc x.cps.size →
      Q (.ref h'.objs.size) { s with heap := h'.push { cls := .type "tuple", data := .seq acc }, toks := tk }) :
    wpAny (model prog w) A (call (.type "tuple") [.str x t]) Q E s := by
  refine callType_codes (Q₁ := fun obj s₁ => s₁.TypeIs obj "tuple" ∧ Q obj s₁) F.called_tuple (F.typeCall_tuple_1 _) F.entry_object_init
    (code_tuple_str (A := A.in1) hh x t hn fun h' tk acc hk hacc => ⟨⟨_, Heap.get?_push_size _ rfl, rfl⟩, hQ h' tk acc hk hacc⟩) fun obj s₁ h₁ => ?_
  exact ⟨h₁.1, F.args_object_init_2 obj _, object_init_meets F.called_tuple.init.lookup F.called_tuple.made (by decide) prog w A.in1 _ s₁ ⟨h₁.1, rfl, h₁.2⟩⟩
end
end PuT
namespace Pu
open PySem PySem.Spec PyProof.Rows L2 SeqAt PuS PuT
def rTupS : List V → Hp → VK → Prop := fun xs H Q => ∃ z, xs = [.str z] ∧ z.length ≤ sizeLine ∧ NewT H Q (chV z)
theorem call_tupS {X : Cx} (hc : X.calm = true) : CallR X (.type "tuple") rTupS := by
  intro pins s σ H xs us Q I r h
  obtain ⟨z, e, hl, q⟩ := h
  subst e
  obtain ⟨u, eu, rx⟩ := vals1 r
  subst eu
  obtain ⟨t, rfl⟩ := rx
  have lz : (chV z).length = z.cps.size := by simp [chV]
  refine call_tuple_text (I.ok.hd hc) z t hl fun h' tk acc hk hi => ?_
  have vs : Vals (chV z) acc.toList := by
    refine vals_of_at (by rw [lz, Array.length_toList, hi.1]) fun j x u h1 h2 => ?_
    obtain ⟨c, tk, e1, rfl⟩ := hi.2 j u (by rw [← h2, Array.getElem?_toList])
    unfold chV at h1
    rw [List.getElem?_map, Array.getElem?_toList, e1] at h1
    cases h1
    exact ⟨tk, rfl⟩
  have I1 : Inv X pins σ H { s with heap := h', toks := tk } := I.kept hk
  cases acc with
  | mk l => exact ⟨.ref h'.objs.size, _, laidT I1 (its := l) vs (by rw [lz]; exact hl), rfl, newT I1 q⟩
def pTupA : P1
  | .list xs, P => P (.tuple xs)
  | .tuple xs, P => P (.tuple xs)
  | .str z, P => z.length ≤ sizeLine ∧ P (.tuple (chS z))
  | _, _ => False
def rTupA (K : PySem.W.Frag) : List V → Hp → VK → Prop := fun xs H Q => (∃ p ys, xs = [.ref p] ∧ ((SqL K H p ys ∧ NewT H Q ys) ∨ (SqT K H p ys ∧ Q (.ref p) H))) ∨ rTupS xs H Q
theorem call_tupA {X : Cx} (hc : X.calm = true) : CallR X (.type "tuple") (rTupA X.K) := fun pins s σ H xs us Q I r h => h.elim (fun h => call_tupleP pins s σ H xs us Q I r h) fun h => call_tupS hc pins s σ H xs us Q I r h
theorem c_tupA {X : Cx} : Cl1 X.K (rTupA X.K) pTupA := by
  intro pn b F H v x P Q o bv q k
  match x, q with
  | .list xs, q =>
    obtain ⟨a, vs, rfl, h1, r1⟩ := bv.list o
    exact .inl ⟨_, vs, rfl, .inl ⟨SqL.of h1, k.tup o r1 q⟩⟩
  | .tuple xs, q =>
    rcases bv with bv | ⟨_, e, _⟩
    · cases bv with
      | tup h r => exact .inl ⟨_, _, rfl, .inr ⟨Same.tup o.sub h.sq, k _ _ F H o .refl (.tup h r) q⟩⟩
    · cases e
  | .str z, ⟨hl, q⟩ =>
    rw [bv.str]
    exact .inr ⟨z, rfl, hl, k.tup o (rvs_ch z) q⟩
def eTupA : PyData → Option PyData
  | .list xs => some (.tuple xs)
  | .tuple xs => some (.tuple xs)
  | .str z => if z.length ≤ sizeLine then some (.tuple (chS z)) else none
  | _ => none
theorem h1_tupA : H1 pTupA eTupA := fun x P r q k => by
  cases x <;> first | (cases q; exact k) | (obtain ⟨c, e⟩ := ite_some q; subst e; exact ⟨c, k⟩) | cases q
def pMulT : P2
  | .int i, .int j, P => CMul i j ∧ P (.int (i * j))
  | .list xs, .int k, P => -(2 ^ 63) ≤ k ∧ k < 2 ^ 63 ∧ xs.length * k.toNat ≤ sizeLine ∧ P (.list (List.replicate k.toNat xs).flatten)
  | _, _, _ => False
def rMulT (K : PySem.W.Frag) : R2 := fun x y H Q => rMulA x y H Q
theorem opr_mulT {X : Cx} : OpR X (binaryOp .Mult) (rMulT X.K) := opr_mul
theorem o_mulT {K : PySem.W.Frag} : Op2 K (rMulT K) pMulT := by
  intro pn b F H v u x y P Q o bv bu q k
  match x, y, q with
  | .int i, .int j, ⟨c, q⟩ => exact .inl ⟨i, j, bv.int, bu.int, c, k _ _ F H o .refl (.int _) q⟩
  | .list xs, .int n, ⟨z1, z2, z3, q⟩ =>
    obtain ⟨a, vs, rfl, h1, r1⟩ := bv.list o
    exact .inr ⟨a, n, vs, rfl, bu.int, h1, z1, z2, by rw [r1.len]; exact z3, k.lst o (r1.rep _) q⟩
def eMulT : PyData → PyData → Option PyData
  | .tuple _, _ => none
  | x, y => eMul x y
theorem h2_mulT : H2 pMulT eMulT := fun x y P r q k => by
  cases x with
  | tuple xs => cases y with
    | _ => cases q
  | int i => cases y with
    | int j => exact h2_mul (.int i) (.int j) P r q k
    | _ => cases q
  | list xs => cases y with
    | int j => exact h2_mul (.list xs) (.int j) P r q k
    | _ => cases q
  | _ => cases y <;> cases q
abbrev ePow := eI (fun i j => decide (0 ≤ j) && (decide (j ≤ 1000000) && decide (i.natAbs < 2 ^ 64))) fun i j => .int (i ^ j.toNat)
theorem h2_pow : H2 pPow ePow := h2_i fun i j h => by
  obtain ⟨h1, h⟩ := Bool.and_eq_true_iff.mp h
  obtain ⟨h2, h3⟩ := Bool.and_eq_true_iff.mp h
  exact ⟨of_decide_eq_true h1, of_decide_eq_true h2, of_decide_eq_true h3⟩
end Pu
namespace Pu
open PySem PySem.Spec PyProof.Rows L2 SeqAt PuS
theorem mulT_list (xs : List PyData) (k : Int) : eMulT (.list xs) (.int k) = eMul (.list xs) (.int k) := rfl
theorem mulT_nat {xs : List PyData} (k : Nat) (h : xs.length * k ≤ 100000) (hk : k ≤ 1000) : eMulT (.list xs) (.int (k : Int)) = some (.list (List.replicate k xs).flatten) := by rw [mulT_list, mul_nat k h hk]
theorem mulT_tst {xs : List PyData} (c : Bool) (h : xs.length ≤ 100000) : eMulT (.list xs) (.int (if c then 1 else 0)) = some (.list (if c then xs else [])) := by rw [mulT_list, mul_tst c h]
structure Fit (B D : Nat) (d : PyData) : Prop where
  shw : d.showable = true
  leaf : d.leavesShort 60 = true
  ok : okR d
  bulk : d.bulk ≤ B
  deep : d.depth ≤ D
structure FitS (B D : Nat) (xs : List PyData) : Prop where
  shw : PyData.showableAll xs = true
  leaf : PyData.leavesShortAll 60 xs = true
  ok : okRs xs
  bulk : PyData.bulkAll xs ≤ B
  deep : PyData.depthAll xs ≤ D
section
variable {B C D E : Nat} {d : PyData} {xs ys : List PyData}
theorem Fit.le (h : Fit B D d) (hB : B ≤ C) (hD : D ≤ E) : Fit C E d := ⟨h.shw, h.leaf, h.ok, Nat.le_trans h.bulk hB, Nat.le_trans h.deep hD⟩
theorem FitS.le (h : FitS B D xs) (hB : B ≤ C) (hD : D ≤ E) : FitS C E xs := ⟨h.shw, h.leaf, h.ok, Nat.le_trans h.bulk hB, Nat.le_trans h.deep hD⟩
theorem FitS.nil : FitS 0 0 [] := ⟨rfl, rfl, trivial, Nat.le_refl _, Nat.le_refl _⟩
theorem FitS.cons (h : Fit B D d) (hs : FitS C D xs) : FitS (B + 1 + C) D (d :: xs) := by
  refine ⟨?_, ?_, ⟨h.ok, hs.ok⟩, ?_, ?_⟩
  · simp [PyData.showableAll, h.shw, hs.shw]
  · simp [PyData.leavesShortAll, h.leaf, hs.leaf]
  · have := h.bulk; have := hs.bulk; simp only [PyData.bulkAll]; omega
  · have := h.deep; have := hs.deep; simp only [PyData.depthAll]; omega
theorem FitS.uncons (h : FitS B D (d :: xs)) : ∃ B1 B2, Fit B1 D d ∧ FitS B2 D xs ∧ B1 + 1 + B2 ≤ B := by
  have h1 := h.shw; have h2 := h.leaf; have h3 := h.bulk; have h4 := h.deep
  simp [PyData.showableAll] at h1
  simp [PyData.leavesShortAll] at h2
  simp only [PyData.bulkAll] at h3
  simp only [PyData.depthAll] at h4
  exact ⟨d.bulk, PyData.bulkAll xs, ⟨h1.1, h2.1, h.ok.1, Nat.le_refl _, by omega⟩, ⟨h1.2, h2.2, h.ok.2, Nat.le_refl _, by omega⟩, h3⟩
theorem FitS.mem : ∀ {xs : List PyData} {B : Nat}, FitS B D xs → ∀ d ∈ xs, Fit B D d
  | [], _, _, d, h => by cases h
  | x :: xs, B, hs, d, h => by
    obtain ⟨B1, B2, h1, h2, hb⟩ := hs.uncons
    rcases List.mem_cons.mp h with e | h
    · subst e; exact h1.le (by omega) (Nat.le_refl _)
    · exact (h2.mem d h).le (by omega) (Nat.le_refl _)
theorem FitS.len : ∀ {xs : List PyData} {B : Nat}, FitS B D xs → xs.length ≤ B
  | [], _, _ => Nat.zero_le _
  | x :: xs, B, hs => by
    obtain ⟨B1, B2, h1, h2, hb⟩ := hs.uncons
    have := h2.len
    simp only [List.length_cons]
    omega
theorem FitS.append : ∀ {xs : List PyData} {B : Nat}, FitS B D xs → FitS C D ys → FitS (B + C) D (xs ++ ys)
  | [], B, _, h => h.le (by omega) (Nat.le_refl _)
  | x :: xs, B, hs, h => by
    obtain ⟨B1, B2, h1, h2, hb⟩ := hs.uncons
    exact (FitS.cons h1 (h2.append h)).le (by omega) (Nat.le_refl _)
theorem FitS.sub : ∀ {ys xs : List PyData} {B : Nat}, FitS B D ys → xs.Sublist ys → FitS B D xs
  | _, _, B, hs, .slnil => hs.le (by omega) (Nat.le_refl _)
  | y :: ys, xs, B, hs, .cons _ s => by
    obtain ⟨B1, B2, h1, h2, hb⟩ := hs.uncons
    exact (h2.sub s).le (by omega) (Nat.le_refl _)
  | y :: ys, _ :: xs, B, hs, .cons₂ _ s => by
    obtain ⟨B1, B2, h1, h2, hb⟩ := hs.uncons
    exact (FitS.cons h1 (h2.sub s)).le (by omega) (Nat.le_refl _)
theorem FitS.take (h : FitS B D xs) (n : Nat) : FitS B D (xs.take n) := h.sub (List.take_sublist n xs)
theorem FitS.drop (h : FitS B D xs) (n : Nat) : FitS B D (xs.drop n) := h.sub (List.drop_sublist n xs)
theorem FitS.rev : ∀ {xs : List PyData} {B : Nat}, FitS B D xs → FitS B D xs.reverse
  | [], B, h => h
  | x :: xs, B, hs => by
    obtain ⟨B1, B2, h1, h2, hb⟩ := hs.uncons
    rw [List.reverse_cons]
    exact (h2.rev.append (FitS.cons h1 (FitS.nil.le (Nat.le_refl _) (Nat.zero_le _)))).le (by omega) (Nat.le_refl _)
theorem FitS.rep (h : FitS B D xs) : ∀ n, FitS (n * B) D (List.replicate n xs).flatten
  | 0 => FitS.nil.le (by omega) (Nat.zero_le _)
  | n + 1 => by
    rw [List.replicate_succ, List.flatten_cons]
    exact (h.append (h.rep n)).le (by rw [Nat.add_mul]; omega) (Nat.le_refl _)
theorem Fit.tup (h : FitS B D xs) : Fit B (D + 1) (.tuple xs) := ⟨by simp [PyData.showable, h.shw], by simp [PyData.leavesShort, h.leaf], h.ok, by have := h.bulk; simpa [PyData.bulk] using this, by have := h.deep; simpa [PyData.depth] using this⟩
theorem Fit.lst (h : FitS B D xs) : Fit B (D + 1) (.list xs) := ⟨by simp [PyData.showable, h.shw], by simp [PyData.leavesShort, h.leaf], h.ok, by have := h.bulk; simpa [PyData.bulk] using this, by have := h.deep; simpa [PyData.depth] using this⟩
theorem Fit.str {z : Str} (h : (Ls z).length ≤ 100) (h2 : ∀ c ∈ Ls z, c < 128) : Fit 100 0 (.str z) := by
  refine ⟨by simp [PyData.showable], ?_, ⟨by omega, fun c hc => by have := h2 c hc; omega⟩, ?_, by simp [PyData.depth]⟩
  · simp only [PyData.leavesShort, List.all_eq_true, decide_eq_true_eq]
    intro c hc
    have := h2 c hc
    omega
  · simp only [PyData.bulk]
    show z.cps.size ≤ 100
    have : z.cps.size = (Ls z).length := by simp [Ls]
    omega
theorem Fit.non : Fit 0 0 .none := ⟨rfl, rfl, trivial, Nat.le_refl _, Nat.le_refl _⟩
theorem Fit.bl (b : Bool) : Fit 0 0 (.bool b) := ⟨rfl, rfl, trivial, Nat.le_refl _, Nat.le_refl _⟩
theorem Fit.dct : Fit 0 1 (.dict []) := ⟨rfl, rfl, trivial, Nat.le_refl _, by simp [PyData.depth, PyData.depthKv]⟩
theorem lg_lt {n k : Nat} (h : n < 10 ^ 55) (hk : 183 ≤ k) : n.log2 < k := by
  by_cases e : n = 0
  · rw [e, show Nat.log2 0 = 0 from by decide]; omega
  · rw [Nat.log2_lt e]
    exact Nat.lt_of_lt_of_le (Nat.lt_trans h (show 10 ^ 55 < 2 ^ 183 by decide)) (Nat.pow_le_pow_right (by decide) hk)
theorem Fit.int {i : Int} (h : i.natAbs < 10 ^ 55) : Fit 0 0 (.int i) := by
  have hl : (toString i).length ≤ 55 + 1 := int_text_length_le10 (by decide) h
  have hg : i.natAbs.log2 < 1920 := lg_lt h (by decide)
  refine ⟨by simp [PyData.showable, hg], ?_, trivial, Nat.le_refl _, Nat.le_refl _⟩
  simp only [PyData.leavesShort, decide_eq_true_eq]
  show (Str.ofString (toString i)).length ≤ 60
  rw [Str.ofString_eq_toList]
  have : (toString i).toList.length = (toString i).length := by first | exact String.length_toList | rfl
  show ((toString i).toList.map Char.toNat).toArray.size ≤ 60
  rw [List.size_toArray, List.length_map]
  omega
/-- repr fits -/
theorem Fit.shown (h : Fit B D d) (hB : B ≤ 100000) : d.shown.length ≤ sizeLine := by
  have := PyData.shown_le_bulk 60 (by decide) d h.leaf
  have h2 := h.bulk
  rw [sizeLine_eq]
  omega
end
end Pu
namespace Pu
open PySem PySem.Spec PyProof.Rows L2 SeqAt PuS
def pNe2 : P2 := fun x y P => pNe x y P ∨ ∃ s t, x = .str s ∧ y = .str t ∧ P (.bool (!decide (s = t)))
def rNe2 (K : PySem.W.Frag) : R2 := fun x y H Q => rNeD K x y H Q ∨ rNe x y H Q
theorem opr_ne2 {X : Cx} (hu : X.A.units + 64 < cLine) : OpR X (compareOp .NotEq) (rNe2 X.K) := OpR.or (op_neD (by omega)) op_ne
theorem o_ne2 {K : PySem.W.Frag} : Op2 K (rNe2 K) pNe2 := by
  intro pn b F H v u x y P Q o bv bu q k
  rcases q with q | ⟨s, t, rfl, rfl, q⟩
  · exact .inl (o_ne pn b F H v u x y P Q o bv bu q k)
  · refine .inr ?_
    rw [bv.str, bu.str]
    refine ⟨rfl, ?_⟩
    have e : (decide (V.str s = V.str t)) = decide (s = t) := by rw [Bool.eq_iff_iff]; simp
    rw [e]
    exact k _ _ F H o .refl (.bl _) q
def eNe2 : PyData → PyData → Option PyData
  | .str s, .str t => some (.bool (!decide (s = t)))
  | x, y => eNe x y
theorem h2_ne2 : H2 pNe2 eNe2 := fun x y P r q k => by
  cases x with
  | str s => cases y with
    | str t => cases q; exact .inr ⟨s, t, rfl, rfl, k⟩
    | _ => exact .inl (h2_ne _ _ P r q k)
  | _ => exact .inl (h2_ne _ y P r (by cases y <;> exact q) k)
theorem ne2_str (s t : Str) : eNe2 (.str s) (.str t) = some (.bool (!decide (s = t))) := rfl
theorem ne2_int (i j : Int) : eNe2 (.int i) (.int j) = some (.bool (!decide (i = j))) := ne_int i j
theorem ne2_nilL {l : List Nat} (h : ∀ c ∈ l, c < 0x110000) : eNe2 (.list (l.map sg)) (.list []) = some (.bool (!l.isEmpty)) := ne_nilL h
theorem FitS.all {B D : Nat} : ∀ {xs : List PyData}, (∀ x ∈ xs, Fit B D x) → FitS ((B + 1) * xs.length) D xs
  | [], _ => FitS.nil.le (Nat.zero_le _) (Nat.zero_le _)
  | x :: xs, h => (FitS.cons (h x List.mem_cons_self) (FitS.all fun y hy => h y (List.mem_cons_of_mem _ hy))).le (by rw [List.length_cons, Nat.mul_add]; omega) (Nat.le_refl _)
end Pu
namespace Pu
open PySem PySem.Spec PyProof.Rows L2 SeqAt PuS
abbrev Ent := List Key × Addr × Value
structure DRaw (P : Program) (w : World) (a : Addr) (xs : List Ent) (h : Heap) : Prop where
  out : (a == sysModules) = false
  ex : ∃ (o : Obj) (es : Array DictEntry) (ep : Nat), h.get? a = some o ∧ o.ExactDict ∧ o.data = .dict es ep ∧ es.toList = xs.map (entryOfKey (tupleKind (mixKind P w))) ∧ (xs.map (·.1)).Nodup
def DOwn (P : Program) (w : World) (a : Addr) (xs : List Ent) : HO := .ext (DRaw P w a xs)
section
variable {P : Program} {w : World} {H : Hp} {h : Heap} {a : Addr} {xs : List Ent}
theorem dOwn_ok (r : DRaw P w a xs h) : ObjOk P w H h a (DOwn P w a xs) := by
  have ⟨o, es, ep, ho, q⟩ := r.ex
  refine ⟨r, ⟨o, ho⟩, fun h1 h2 p k => ?_⟩
  have ⟨o', es', ep', ho', q'⟩ := DRaw.ex p
  exact ⟨DRaw.out p, o', es', ep', k o' ho', q'⟩
theorem dOwn_new (h : Heap) (hb : sysModules < h.objs.size) : DRaw P w h.objs.size [] (h.push { cls := .type "dict", data := .dict #[] }) :=
  ⟨beq_eq_false_iff_ne.mpr (Ne.symm (Nat.ne_of_lt hb)), _, #[], 0, Heap.get?_push_size _ rfl, ⟨rfl, rfl, rfl⟩, rfl, rfl, List.nodup_nil⟩
end
section
variable {X : Cx} {pins : List (Addr × Obj)} {σ : L2.St} {H : Hp} {s : Shared} {a b c : Addr} {k : List Key} {A : Around} {E : Value → Shared → Prop} {xs : List Ent}
theorem keyT_of (I : L2.Inv X pins σ H s) (h : SqT X.K H b (k.map kV)) : (tupleKind (mixKind X.prog X.w)).is s.heap k b := by
  obtain ⟨its, r, ⟨o, h1, h2, n, h3⟩, _⟩ := I.tuple h
  exact ⟨o, its.toArray, n, h1, h2, h3, by simpa using items_are r⟩
theorem dOwn_at (I : L2.Inv X pins σ H s) (e : H a = some (DOwn X.prog X.w a xs)) : DRaw X.prog X.w a xs s.heap := (I.hok a _ e).1
theorem setd_own {Q : Value → Shared → Prop} (hu : A.units + 1 < cLine) (I : L2.Inv X pins σ H s) (e : H a = some (DOwn X.prog X.w a xs)) (eb : SqT X.K H b (k.map kV)) (ek : ∀ x ∈ xs, SqT X.K H x.2.1 (x.1.map kV)) (hl : xs.length < sizeLine)
    (h1 : ∀ p, atKey xs k = some p → ∀ s', L2.Inv X pins σ H s' → Q p.2 s')
    (h2 : atKey xs k = none → ∀ s', L2.Inv X pins σ (upd H a (DOwn X.prog X.w a (xs ++ [(k, b, .ref c)]))) s' → Q (.ref c) s') :
    wpAny (model X.prog X.w) A (call (.builtin "dict.setdefault") [.ref a, .ref b, .ref c]) Q E s := by
  obtain ⟨hd, o, es, ep, q1, q2, q3, q4, q5⟩ := dOwn_at I e
  have dd : s.heap.DictOfH (tupleKind (mixKind X.prog X.w)) a xs := ⟨o, es, ep, q1, q2, q3, q4, fun x hx => keyT_of I (ek x hx), q5⟩
  refine call_setdefault_heap (hsz := Nat.le_of_lt hl) (tupleKind_room_in1 hu) (keyT_of I eb) hd dd (fun p hp => h1 p hp _ (I.tok _)) fun hn h' dd' hs => ?_
  rw [storedH_new hn] at dd'
  obtain ⟨o', es', ep', ho', c1, c2, c3, _, c5⟩ := dd'
  exact h2 hn _ (d_write I (by rw [e]; exact True.intro) hs ⟨o', ho'⟩ (dOwn_ok ⟨hd, o', es', ep', ho', c1, c2, c3, c5⟩))
end
/-- {} -/
def tOwnD (P : Program) (w : World) : TE := fun _ H Q => ∀ p, H p = none → Q (.ref p) (upd H p (DOwn P w p []))
/-- d.setdefault(y, z) -/
def tSetdT (K : PySem.W.Frag) (P : Program) (w : World) (td ty tx : TE) : TE := fun σ H Q => td σ H fun x H1 => ∃ a xs0, x = .ref a ∧ H1 a = some (DOwn P w a xs0) ∧ ty σ H1 fun y H2 => tx σ H2 fun z H3 => ∃ (xs : List Ent) (b c : Addr) (k : List Key),
  H3 a = some (DOwn P w a xs) ∧ y = .ref b ∧ z = .ref c ∧ SqT K H3 b (k.map kV) ∧ (∀ x ∈ xs, SqT K H3 x.2.1 (x.1.map kV)) ∧ xs.length < sizeLine ∧
  (∀ p, atKey xs k = some p → ∃ c', p.2 = .ref c' ∧ Q (.ref c') H3) ∧ (atKey xs k = none → Q (.ref c) (upd H3 a (DOwn P w a (xs ++ [(k, b, .ref c)]))))
section
variable {X : Cx} {o e f : Expr} {td ty tx : TE} {apos cpos pos : Pos}
theorem pe_ownD : PE X (.Dict [] [] pos) (tOwnD X.prog X.w) := ⟨fun pins s σ H Q I h =>
  wpAny_Dict_empty ⟨.ref s.heap.objs.size, _, I.laid (a := s.heap.objs.size) (o := DOwn X.prog X.w s.heap.objs.size []) (t' := s.toks) (fun _ _ q => Heap.get?_push_of_some _ q) (Nat.le_refl _) (dOwn_ok (dOwn_new s.heap I.big)), rfl, h _ (I.hok.fresh (Nat.le_refl _))⟩⟩
theorem pe_setdT (hu : X.A.units + 4 < cLine) (ho : PE X o td) (he : PE X e ty) (hf : PE X f tx) (m : M2 X o "setdefault" apos e f cpos) : PE X (.Call (.Attribute o "setdefault" apos) [e, f] [] cpos) (tSetdT X.K X.prog X.w td ty tx) := by
  refine ⟨fun pins s σ H Q I h => ?_⟩
  refine wpAny_Call_method m.base m.few m.line PySem.F.plainAttrs_dict PySem.F.slot_dict_setdefault PySem.F.type_dict_setdefault (thn (ho.run pins s σ H _ I h) fun u s1 ⟨x, H1, I1, rx, a, xs0, ex, d, q1⟩ => ?_)
  subst ex
  obtain rfl : u = Value.ref a := rx
  obtain ⟨_, ob, _, _, r1, r2, _⟩ := dOwn_at I1 d
  refine ⟨⟨ob, r1, r2.1⟩, fun b q => by cases q; exact ⟨ob, r1, r2.2.1⟩, ?_⟩
  rw [m.trees]
  refine Calls.callWith_builtin rfl (Calls.evalArgs_plain (Calls.spliced_cons (thn (he.run pins s1 σ H1 _ I1 q1) fun iv s2 ⟨y, H2, I2, ry, q2⟩ =>
    Calls.spliced_cons (thn (hf.run pins s2 σ H2 _ I2 q2) fun fv s3 ⟨z, H3, I3, rz, xs, b, c, k, ea, ey, ez, eb, ek, hl, q3, q4⟩ => Calls.spliced_nil ?_))))
  subst ey ez
  obtain rfl : iv = Value.ref b := ry
  obtain rfl : fv = Value.ref c := rz
  refine setd_own ?_ I3 ea eb ek hl (fun p hp s4 I4 => ?_) fun hn s4 I4 => ⟨.ref c, _, I4, rfl, q4 hn⟩
  · show X.A.units + 1 < cLine
    omega
  · obtain ⟨c', e', q'⟩ := q3 p hp
    exact ⟨.ref c', _, I4, by rw [e']; exact rfl, q'⟩
end
end Pu
namespace Pu
open PySem PySem.Spec PyProof.Rows L2 SeqAt PuS
abbrev Kp := List Int × List Int
def keepB : (List Int → Option (List Int)) → List Kp → Bool
  | _, [] => true
  | s, p :: r => match s p.1 with
    | some u => if u = p.2 then keepB s r else false
    | none => keepB (fun x => if x = p.1 then some p.2 else s x) r
def SeenE (K : PySem.W.Frag) (F : Hp) (xs : List Ent) (s : List Int → Option (List Int)) : Prop :=
  ∀ ns : List Int, (atKey xs (ns.map Sum.inl) = none ∧ s ns = none) ∨ ∃ b c u, atKey xs (ns.map Sum.inl) = some (b, .ref c) ∧ s ns = some u ∧ RV K F (.ref c) (tI u)
theorem inl_inj {a b : List Int} (h : (a.map Sum.inl : List Key) = b.map Sum.inl) : a = b := by
  induction a generalizing b with
  | nil => cases b with
    | nil => rfl
    | cons => simp at h
  | cons x r ih => cases b with
    | nil => simp at h
    | cons y t =>
      simp only [List.map_cons, List.cons.injEq, Sum.inl.injEq] at h
      rw [h.1, ih h.2]
theorem SeenE.mono {K : PySem.W.Frag} {F G : Hp} {xs : List Ent} {s : List Int → Option (List Int)} (h : SeenE K F xs s) (e : Same F G) : SeenE K G xs s := fun ns =>
  (h ns).imp id fun ⟨b, c, u, h1, h2, r⟩ => ⟨b, c, u, h1, h2, r.mono e⟩
theorem atKey_snoc {xs : List Ent} {k j : List Key} {p : Addr × Value} (h : atKey xs k = none) : atKey (xs ++ [(k, p)]) j = if j = k then some p else atKey xs j := by
  unfold atKey at h ⊢
  rw [List.find?_append]
  by_cases e : j = k
  · subst e
    rw [if_pos rfl]
    rw [Option.map_eq_none_iff.mp h]
    simp
  · rw [if_neg e]
    have : ([(k, p)] : List Ent).find? (fun x => decide (x.1 = j)) = none := by simp [List.find?_cons, Ne.symm e]
    rw [this]
    simp
theorem SeenE.put {K : PySem.W.Frag} {F : Hp} {xs : List Ent} {s : List Int → Option (List Int)} (h : SeenE K F xs s) {g w : List Int} {b c : Addr} (n : atKey xs (g.map Sum.inl) = none) (r : RV K F (.ref c) (tI w)) :
    SeenE K F (xs ++ [(g.map Sum.inl, b, .ref c)]) (fun x => if x = g then some w else s x) := fun ns => by
  rw [atKey_snoc n]
  by_cases e : ns = g
  · subst e
    exact .inr ⟨b, c, w, if_pos rfl, if_pos rfl, r⟩
  · have e1 : ¬ (ns.map Sum.inl : List Key) = g.map Sum.inl := fun q => e (inl_inj q)
    rw [if_neg e1]
    rcases h ns with ⟨h1, h2⟩ | ⟨b', c', u, h1, h2, h3⟩
    · exact .inl ⟨h1, (if_neg e).trans h2⟩
    · exact .inr ⟨b', c', u, h1, (if_neg e).trans h2, h3⟩
theorem tI_vals {K : PySem.W.Frag} {F : Hp} {v : V} {ns : List Int} (r : RV K F v (tI ns)) : ∃ b, v = .ref b ∧ SqT K F b (ns.map V.int) := by
  cases r with
  | tup h t => exact ⟨_, rfl, by rw [← rvs_ints t]; exact h.sq⟩
theorem kV_inl : ∀ ns : List Int, ((ns.map Sum.inl : List Key).map kV) = ns.map V.int
  | [] => rfl
  | _ :: r => congrArg (V.int _ :: ·) (kV_inl r)
theorem vsAll_ne {j : Nat} : ∀ {is : List Nat} {vs : List V} {σ : L2.St}, j ∉ is → (vsAll is vs σ)[j]? = σ[j]?
  | [], _, _, _ => by simp [vsAll]
  | i :: is, [], _, _ => by simp [vsAll]
  | i :: is, v :: vs, σ, h => by
    rw [vsAll, vsAll_ne (fun q => h (List.mem_cons_of_mem _ q)), List.getElem?_set_ne (fun e => h (by rw [e]; exact List.mem_cons_self))]
theorem tI_eqv (u w : List Int) : PyData.eqv (tI u) (tI w) = decide (u = w) := by
  show PyData.eqv (.tuple _) (.tuple _) = _
  rw [PyData.eqv]
  induction u generalizing w with
  | nil => cases w <;> simp [PyData.eqvAll]
  | cons x r ih => cases w with
    | nil => simp [PyData.eqvAll]
    | cons y t =>
      rw [List.map_cons, List.map_cons, PyData.eqvAll, ih]
      have : PyData.eqv (.int x) (.int y) = decide (x = y) := by rw [PyData.eqv]; exact Bool.eq_iff_iff.mpr (by simp)
      rw [this, Bool.eq_iff_iff]
      simp
section
variable {K : PySem.W.Frag} {pn : Pn} {b : Nat} {F0 H0 F H : Hp} {σ : L2.St} {env : En} {j : Nat} {a : Addr} {P : Program} {w : World} {xs ys : List Ent}
theorem Rep.setN {v : Option V} (r : Rep K pn F H σ env b) : Rep K pn F H (σ.set j v) (env.set j none) b := by
  have get : ∀ (i : Nat) (s : Sl), (env.set j none)[i]? = some (some s) → i ≠ j ∧ env[i]? = some (some s) := fun i s h => by
    by_cases e : i = j
    · subst e
      have hl : i < env.length := by have := (List.getElem?_eq_some_iff.mp h).1; simpa using this
      rw [List.getElem?_set_self hl] at h
      cases h
    · rw [List.getElem?_set_ne (Ne.symm e)] at h
      exact ⟨e, h⟩
  refine ⟨r.ok, by simp [r.len], fun i s h => ?_, fun i k c us zs n h1 h2 h3 => ?_, r.tk⟩
  · obtain ⟨e, h⟩ := get i s h
    rw [List.getElem?_set_ne (Ne.symm e)]
    exact r.slot i s h
  · obtain ⟨e1, h1⟩ := get i _ h1
    rw [List.getElem?_set_ne (Ne.symm e1)] at h3
    rcases h2 with h2 | h2
    · obtain ⟨e2, h2⟩ := get k _ h2
      rw [List.getElem?_set_ne (Ne.symm e2)]
      exact r.apart i k c us zs n h1 (.inl h2) h3
    · obtain ⟨e2, h2⟩ := get k _ h2
      rw [List.getElem?_set_ne (Ne.symm e2)]
      exact r.apart i k c us zs n h1 (.inr h2) h3
theorem RepS.setN {v : Option V} (r : RepS K pn F0 H0 F H σ env b) : RepS K pn F0 H0 F H (σ.set j v) (env.set j none) b := by
  refine ⟨r.rep.setN, r.ext, fun i c us hq h1 h2 => ?_⟩
  by_cases e : i = j
  · subst e
    have hl : i < env.length := by have := (List.getElem?_eq_some_iff.mp h1).1; simpa using this
    rw [List.getElem?_set_self hl] at h1
    cases h1
  · rw [List.getElem?_set_ne (Ne.symm e)] at h1 h2
    exact r.own i c us hq h1 h2
theorem PenIs.apart (k : PenIs pn b F H) (h : H a = some (DOwn P w a xs)) : NotPen pn a ∧ NotCa pn a := by
  match pn, k with
  | none, _ => exact ⟨fun _ z => (nomatch z), fun _ z => (nomatch z)⟩
  | some q, ⟨_, _, _, tb, cells, at_, cur, h1, h2, _⟩ =>
    refine ⟨fun p e => ?_, fun p e z => ?_⟩
    · cases e
      refine ⟨fun z => (by rw [z, h1] at h; exact (nomatch h)), fun t ht z => ?_⟩
      obtain ⟨_, ps, hps, _⟩ := tb t ht
      rw [z, hps] at h; exact nomatch h
    · cases e; rw [z, h2] at h; exact nomatch h
theorem RepS.chg (r : RepS K pn F0 H0 F H σ env b) (h : H a = some (DOwn P w a xs)) (f : F a = none) (h0 : H0 a = none) : RepS K pn F0 H0 F (upd H a (DOwn P w a ys)) σ env b := by
  have own : ∀ {v : V} {us : List PyData}, OwnL K pn F H v us → OwnL K pn F (upd H a (DOwn P w a ys)) v us := fun ⟨c, vs, e, fc, p, q, hc, rc⟩ =>
    ⟨c, vs, e, fc, p, q, by rw [upd_ne (fun z => by rw [z, h] at hc; exact nomatch hc)]; exact hc, rc⟩
  refine ⟨⟨⟨fun c o q => ?_, ?_⟩, r.rep.len, fun i s hi => ?_, r.rep.apart, r.rep.tk⟩, ⟨r.ext.fsub, fun c o hc fc p => ?_⟩, r.own⟩
  · rw [upd_ne (fun z => by rw [z, f] at q; cases q)]; exact r.rep.ok.sub c o q
  · obtain ⟨np, nc⟩ := r.rep.ok.pen.apart h
    exact r.rep.ok.pen.wr np nc
  · obtain ⟨v, hv, sl⟩ := r.rep.slot i s hi
    refine ⟨v, hv, ?_⟩
    match s, sl with
    | .d x, sl => exact sl
    | .l zs, sl => exact own sl
    | .r zs, sl => exact own sl
    | .p, sl => exact sl
    | .k zs, ⟨c, us, e, fc, p, q, hc, rc⟩ => exact ⟨c, us, e, fc, p, q, by rw [upd_ne (fun z => by rw [z, h] at hc; exact nomatch hc)]; exact hc, rc⟩
  · obtain ⟨q1, q2⟩ := r.ext.keep c o hc fc p
    exact ⟨by rw [upd_ne (fun z => by rw [z, h0] at hc; cases hc)]; exact q1, q2⟩
end
end Pu
namespace PuT
open PySem PySem.Spec PyProof.Rows L2
end PuT
namespace Pu
open PySem PySem.Spec PyProof.Rows L2 SeqAt PuT
end Pu
namespace Pu
open PySem PySem.Spec PyProof.Rows L2 SeqAt PuS
section
variable {ta tb tc : WE} {tt tu : WT} {tf : WF} {ti : WI} {env : En} {n : Nat} {i j i1 i2 : Nat} {tr : WS} {N : En → Nat → Prop} {R : PyData → Nat → Prop} {B C : En → Nat → Prop}
theorem n_unpLD (h : ME tf env n fun xs m => ME tc env m fun y m1 => N ((env.set i (some (.l xs))).set j (some (.d y))) m1) : MS (sUnpLD i j tf tc) env n N R B C :=
  fun PD b hb kn kr kb kc => h b _ hb fun x m b1 hx hb1 => hx b1 _ hb1 fun y m1 b2 q hb2 => kn _ m1 b2 q hb2
end
theorem index_sg {K : List Nat} {c : Nat} (hn : K.Nodup) (hc : c ∈ K) : eIndex (tx K) (sg c) = some (.int (K.idxOf c : Nat)) := by
  have h1 := StrLaws.found_one (tx K) c
  rw [show (tx K).cps.toList = K from Ls_tx K, decide_eq_true hc] at h1
  obtain ⟨f, ch⟩ := StrLaws.occ_chain (tx K) ⟨#[c]⟩ 1
  show (match Builtin.Str.occurrences (tx K) ⟨#[c]⟩ 0 (tx K).length 1 with | i :: _ => some (PyData.int (i : Nat)) | [] => none) = _
  cases e : Builtin.Str.occurrences (tx K) ⟨#[c]⟩ 0 (tx K).length 1 with
  | nil => rw [e] at h1; cases h1
  | cons i r =>
    rw [e] at ch
    have h2 := (StrLaws.subAt_one (tx K) c i).mp ch.2.1
    rw [show (tx K).cps.toList = K from Ls_tx K] at h2
    obtain ⟨hi, h3⟩ := List.getElem?_eq_some_iff.mp h2
    have h4 : K.idxOf c < K.length := List.idxOf_lt_length_iff.mpr hc
    have h5 : K[K.idxOf c] = c := List.getElem_idxOf h4
    have : i = K.idxOf c := (List.getElem_inj hn).mp (by rw [h3, h5])
    rw [this]
/-- the row's cells in these columns -/
def prj (K : List Nat) (part : List Nat) (r : List Int) : List Int := part.map fun c => r.getD (K.idxOf c) 0
def fitsB (K : List Nat) (rules : List (List Nat × Nat)) (keys : List (List Nat)) (r o : List Int) : Bool :=
  (rules.all fun p => !decide (prj K p.1 r = prj K p.1 o) || decide (prj K [p.2] r = prj K [p.2] o)) && keys.all fun k => !decide (prj K k r = prj K k o)
def ruleB (K : List Nat) (p : List Nat × Nat) (rows : List (List Int)) : Bool := keepB (fun _ => none) ((rows.map (prj K p.1)).zip (rows.map (prj K [p.2])))
def keyB (K : List Nat) (k : List Nat) (rows : List (List Int)) : Bool := decide ((dist (rows.map (prj K k))).length = rows.length)
def tabB (K : List Nat) (rules : List (List Nat × Nat)) (keys : List (List Nat)) (rows : List (List Int)) : Bool := (rules.all fun p => ruleB K p rows) && keys.all fun k => keyB K k rows
theorem keep_iff : ∀ (ks : List Kp) (s : List Int → Option (List Int)), keepB s ks = true ↔ (∀ p ∈ ks, ∀ u, s p.1 = some u → u = p.2) ∧ ks.Pairwise fun p q => p.1 = q.1 → p.2 = q.2
  | [], s => by simp [keepB]
  | p :: r, s => by
    unfold keepB
    cases q : s p.1 with
    | some u =>
      simp only
      by_cases c : u = p.2
      · rw [if_pos c, keep_iff r s, List.pairwise_cons]
        constructor
        · rintro ⟨h1, h2⟩
          refine ⟨fun x hx u' e => ?_, fun x hx e => ?_, h2⟩
          · rcases List.mem_cons.mp hx with z | hx
            · subst z; rw [q] at e; cases e; exact c
            · exact h1 x hx u' e
          · rw [← c]; exact h1 x hx u (by rw [← e]; exact q)
        · rintro ⟨h1, h2, h3⟩
          exact ⟨fun x hx => h1 x (List.mem_cons_of_mem _ hx), h3⟩
      · rw [if_neg c]
        constructor
        · intro h; cases h
        · rintro ⟨h1, _⟩
          exact absurd (h1 p List.mem_cons_self u q) c
    | none =>
      simp only
      rw [keep_iff r _, List.pairwise_cons]
      constructor
      · rintro ⟨h1, h2⟩
        refine ⟨fun x hx u' e => ?_, fun x hx e => ?_, h2⟩
        · rcases List.mem_cons.mp hx with z | hx
          · subst z; rw [q] at e; cases e
          · refine h1 x hx u' ?_
            rw [if_neg (fun z => by rw [z, q] at e; cases e)]
            exact e
        · exact h1 x hx p.2 (if_pos e.symm)
      · rintro ⟨h1, h2, h3⟩
        refine ⟨fun x hx u' e => ?_, h3⟩
        by_cases z : x.1 = p.1
        · rw [if_pos z] at e; cases e; exact h2 x hx z.symm
        · rw [if_neg z] at e; exact h1 x (List.mem_cons_of_mem _ hx) u' e
theorem zip_pw {α β : Type} {R : α × β → α × β → Prop} {γ : Type} (f : γ → α) (g : γ → β) : ∀ l : List γ, ((l.map f).zip (l.map g)).Pairwise R ↔ l.Pairwise fun x y => R (f x, g x) (f y, g y)
  | [] => by simp
  | x :: l => by
    rw [List.map_cons, List.map_cons, List.zip_cons_cons, List.pairwise_cons, List.pairwise_cons, zip_pw f g l]
    constructor
    · rintro ⟨h1, h2⟩
      exact ⟨fun y hy => h1 (f y, g y) (by rw [List.zip_map']; exact List.mem_map.mpr ⟨y, hy, rfl⟩), h2⟩
    · rintro ⟨h1, h2⟩
      refine ⟨fun p hp => ?_, h2⟩
      rw [List.zip_map'] at hp
      obtain ⟨y, hy, rfl⟩ := List.mem_map.mp hp
      exact h1 y hy
theorem ruleB_iff {K : List Nat} {p : List Nat × Nat} {rows : List (List Int)} : ruleB K p rows = true ↔ rows.Pairwise fun r o => prj K p.1 r = prj K p.1 o → prj K [p.2] r = prj K [p.2] o := by
  unfold ruleB
  rw [keep_iff, zip_pw]
  exact ⟨fun h => h.2, fun h => ⟨fun _ _ _ e => (nomatch e), h⟩⟩
theorem keyB_iff {K : List Nat} {k : List Nat} {rows : List (List Int)} : keyB K k rows = true ↔ rows.Pairwise fun r o => prj K k r ≠ prj K k o := by
  unfold keyB
  rw [decide_eq_true_eq]
  have := dist_nodup (rows.map (prj K k))
  rw [List.length_map] at this
  rw [this]
  unfold List.Nodup
  rw [List.pairwise_map]
theorem pw_all {α β : Type} (R : β → α → α → Prop) (l : List α) : ∀ bs : List β, (∀ b ∈ bs, l.Pairwise (R b)) ↔ l.Pairwise fun x y => ∀ b ∈ bs, R b x y
  | [] => ⟨fun _ => by
      induction l with
      | nil => exact .nil
      | cons x l ih => exact List.pairwise_cons.mpr ⟨fun _ _ _ h => (nomatch h), ih fun _ h => (nomatch h)⟩, fun _ _ h => (nomatch h)⟩
  | b :: bs => by
    rw [List.forall_mem_cons, pw_all R l bs, ← List.pairwise_and_iff]
    constructor
    · intro h
      exact h.imp fun h => List.forall_mem_cons.mpr h
    · intro h
      exact h.imp fun h => List.forall_mem_cons.mp h
theorem fitsB_iff {K : List Nat} {rules : List (List Nat × Nat)} {keys : List (List Nat)} {r o : List Int} : fitsB K rules keys r o = true ↔ (∀ p ∈ rules, prj K p.1 r = prj K p.1 o → prj K [p.2] r = prj K [p.2] o) ∧ ∀ k ∈ keys, prj K k r ≠ prj K k o := by
  unfold fitsB
  rw [Bool.and_eq_true, List.all_eq_true, List.all_eq_true]
  refine and_congr (forall_congr' fun p => forall_congr' fun _ => ?_) (forall_congr' fun k => forall_congr' fun _ => ?_)
  · by_cases e : prj K p.1 r = prj K p.1 o <;> by_cases f : prj K [p.2] r = prj K [p.2] o <;> simp [e, f]
  · by_cases e : prj K k r = prj K k o <;> simp [e]
theorem fitsB_symm {K : List Nat} {rules : List (List Nat × Nat)} {keys : List (List Nat)} {r o : List Int} : fitsB K rules keys r o = fitsB K rules keys o r := by
  rw [Bool.eq_iff_iff, fitsB_iff, fitsB_iff]
  exact ⟨fun h => ⟨fun p hp e => (h.1 p hp e.symm).symm, fun k hk e => h.2 k hk e.symm⟩, fun h => ⟨fun p hp e => (h.1 p hp e.symm).symm, fun k hk e => h.2 k hk e.symm⟩⟩
theorem tabB_iff {K : List Nat} {rules : List (List Nat × Nat)} {keys : List (List Nat)} {rows : List (List Int)} : tabB K rules keys rows = true ↔ rows.Pairwise fun o r => fitsB K rules keys r o = true := by
  unfold tabB
  rw [Bool.and_eq_true, List.all_eq_true, List.all_eq_true]
  have e1 : (∀ p ∈ rules, ruleB K p rows = true) ↔ ∀ p ∈ rules, rows.Pairwise fun r o => prj K p.1 r = prj K p.1 o → prj K [p.2] r = prj K [p.2] o := forall_congr' fun p => forall_congr' fun _ => ruleB_iff
  have e2 : (∀ k ∈ keys, keyB K k rows = true) ↔ ∀ k ∈ keys, rows.Pairwise fun r o => prj K k r ≠ prj K k o := forall_congr' fun k => forall_congr' fun _ => keyB_iff
  rw [e1, e2, pw_all (fun p r o => prj K p.1 r = prj K p.1 o → prj K [p.2] r = prj K [p.2] o) rows rules, pw_all (fun k r o => prj K k r ≠ prj K k o) rows keys, ← List.pairwise_and_iff]
  constructor
  · intro h
    exact h.imp fun h => by rw [fitsB_symm]; exact fitsB_iff.mpr h
  · intro h
    exact h.imp fun h => by rw [fitsB_symm] at h; exact fitsB_iff.mp h
end Pu
namespace Pu
open PySem PySem.Spec PyProof.Rows L2 SeqAt PuS
section
variable {ta : WE} {tt : WT} {ti : WI} {env : En} {n : Nat} {Q : PyData → Nat → Prop} {QL : List PyData → Nat → Prop} {g : Tg} {own : List Nat} {α : Type}
theorem m_lcM (zs : List α) (dz y : α → PyData) (h : ME ti env n fun xs m => xs = zs.map dz ∧ zs.length < sizeLine ∧
      (∀ z ∈ zs, ∃ e', setT g (dz z) (wipeE env own) = some e' ∧ ∀ m, ME ta e' m fun d m1 => d = y z ∧ m1 = m) ∧ QL (zs.map y) m) : ME (fLc ti g wYes ta own) env n QL :=
  m_lc (h.imp fun xs m ⟨ex, l, each, q⟩ => ⟨by rw [ex, List.length_map]; exact l, fun rest acc m1 => m1 = m ∧ ∃ pre post, zs = pre ++ post ∧ rest = post.map dz ∧ acc = pre.map y, ⟨rfl, [], zs, rfl, ex, rfl⟩, fun x rest acc m1 ⟨em, pre, post, e1, e2, e3⟩ => by
    subst em
    cases post with
    | nil => cases e2
    | cons z post =>
    rw [List.map_cons] at e2
    obtain ⟨rfl, rfl⟩ := List.cons.inj e2
    obtain ⟨e', h1, h3⟩ := each z (by rw [e1]; simp)
    refine ⟨e', h1, m_yes ⟨fun _ => (h3 m1).imp fun d m3 ⟨ed, em⟩ => ?_, fun h => Bool.noConfusion h⟩⟩
    subst ed em
    exact ⟨rfl, pre ++ [z], post, by rw [e1]; simp, rfl, by rw [e3]; simp⟩, fun acc m1 ⟨em, pre, post, e1, e2, e3⟩ => by
    subst em
    have e0 : post = [] := by cases post with | nil => rfl | cons c r => cases e2
    subst e0
    rw [List.append_nil] at e1
    subst e1
    rw [e3]
    exact q⟩)
theorem m_lcK (zs : List α) (dz y : α → PyData) (c : α → Bool) (h : ME ti env n fun xs m => xs = zs.map dz ∧ zs.length < sizeLine ∧
      (∀ z ∈ zs, ∃ e', setT g (dz z) (wipeE env own) = some e' ∧ (∀ m, ME tt e' m fun k m1 => k = c z ∧ m1 = m) ∧ ∀ m, ME ta e' m fun d m1 => d = y z ∧ m1 = m) ∧ QL ((zs.filter c).map y) m) : ME (fLc ti g tt ta own) env n QL :=
  m_lc (h.imp fun xs m ⟨ex, l, each, q⟩ => ⟨by rw [ex, List.length_map]; exact l, fun rest acc m1 => m1 = m ∧ ∃ pre post, zs = pre ++ post ∧ rest = post.map dz ∧ acc = (pre.filter c).map y, ⟨rfl, [], zs, rfl, ex, rfl⟩, fun x rest acc m1 ⟨em, pre, post, e1, e2, e3⟩ => by
    subst em
    cases post with
    | nil => cases e2
    | cons z post =>
    rw [List.map_cons] at e2
    obtain ⟨rfl, rfl⟩ := List.cons.inj e2
    obtain ⟨e', h1, h2, h3⟩ := each z (by rw [e1]; simp)
    refine ⟨e', h1, (h2 m1).imp fun k m2 ⟨ek, em⟩ => ?_⟩
    subst ek em
    refine ⟨fun ck => (h3 m2).imp fun d m3 ⟨ed, em⟩ => ?_, fun ck => ?_⟩
    · subst ed em
      exact ⟨rfl, pre ++ [z], post, by rw [e1]; simp, rfl, by rw [e3, List.filter_append, List.map_append]; simp [ck]⟩
    · exact ⟨rfl, pre ++ [z], post, by rw [e1]; simp, rfl, by rw [e3, List.filter_append, List.map_append]; simp [ck]⟩, fun acc m1 ⟨em, pre, post, e1, e2, e3⟩ => by
    subst em
    have e0 : post = [] := by cases post with | nil => rfl | cons c r => cases e2
    subst e0
    rw [List.append_nil] at e1
    subst e1
    rw [e3]
    exact q⟩)
end
def liD (ns : List Int) : PyData := .list (ns.map .int)
theorem liD_shaped (ns : List Int) : SeqAt.shaped (liD ns) = true := by
  have a : PyData.canLayAll0 (ns.map PyData.int) = true := by
    induction ns with
    | nil => rfl
    | cons x r ih => simp [PyData.canLayAll0, PyData.canLay0, ih]
  have d : PyData.depthAll (ns.map PyData.int) = 0 := by
    clear a
    induction ns with
    | nil => rfl
    | cons x r ih => simp [PyData.depthAll, PyData.depth, ih]
  simp [SeqAt.shaped, liD, PyData.canLay0, PyData.depth, a, d]
theorem liD_eqv (u w : List Int) : PyData.eqv (liD u) (liD w) = decide (u = w) := by
  have h : PyData.eqv (.tuple (u.map .int)) (.tuple (w.map .int)) = decide (u = w) := tI_eqv u w
  show PyData.eqv (.list _) (.list _) = _
  rw [PyData.eqv] at h
  rw [PyData.eqv]
  exact h
theorem eq_liD (u w : List Int) : eEq (liD u) (liD w) = some (.bool (decide (u = w))) := by
  have d1 : ∀ ns : List Int, dfreeAll (ns.map PyData.int) = true := fun ns => by
    induction ns with
    | nil => rfl
    | cons x r ih => simp [dfreeAll, dfree, ih]
  have d2 : ∀ ns : List Int, PyData.depthAll (ns.map PyData.int) = 0 := fun ns => by
    induction ns with
    | nil => rfl
    | cons x r ih => simp [PyData.depthAll, PyData.depth, ih]
  unfold eEq
  rw [if_pos (by simp [liD, dfree, d1, PyData.depth, d2]), liD_eqv]
theorem ne2_liD (u w : List Int) : eNe2 (liD u) (liD w) = some (.bool (!decide (u = w))) := by
  show eNe (liD u) (liD w) = _
  unfold eNe
  rw [if_pos (by rw [liD_shaped, liD_shaped]; rfl), liD_eqv]
end Pu
namespace Pu
end Pu
namespace Pu
open PySem PySem.Spec PyProof.Rows L2 SeqAt PuS
end Pu
namespace Pu
open PySem PySem.Spec PyProof.Rows L2 SeqAt PuS
end Pu
namespace PuT
open PySem PySem.Spec PyProof.Rows L2 PuS Pu
section
variable {P : Program} {w : World} {A : Around} {E : Value → Shared → Prop} {s : Shared}
abbrev TKy (P : Program) (w : World) (h : Heap) (k : List Key) (a : Addr) : Prop := IsTupleKey (mixKind P w) h k a
abbrev hsh (P : Program) (w : World) (k : List Key) : Int := tupleKeyHash (mixKind P w) k
/-- an int or a text -/
def Sm (v : Value) : Prop := (∃ i t, v = .int i t) ∨ ∃ z t, v = .str z t
theorem items_sm {k : List Key} {vs : List Value} (h : ItemsAre (mixKind P w) k vs) : ∀ u ∈ vs, Sm u := by
  induction h with
  | nil => exact fun u hu => absurd hu List.not_mem_nil
  | cons h1 _ ih =>
    refine fun u hu => (List.mem_cons.mp hu).elim (fun e => ?_) (ih u)
    subst e
    rcases keyIs_shape h1 with ⟨i, t, _, q⟩ | ⟨z, t, _, q⟩
    · exact .inl ⟨i, t, q⟩
    · exact .inr ⟨z, t, q⟩
theorem cls_sm {u : Value} (h : Sm u) (n : Nat) : ofAClassStatement n u = pure false := by
  rcases h with ⟨i, t, rfl⟩ | ⟨z, t, rfl⟩ <;> cases n <;> rfl
theorem hbv_sm {u : Value} (h : Sm u) (n : Nat) : hashByValue n u = pure (plainKind u) := hashByValue_scannable n (by rcases h with ⟨i, t, rfl⟩ | ⟨z, t, rfl⟩ <;> rfl)
theorem cls_tky {k : List Key} {b : Addr} {Q : Bool → Shared → Prop} (x : TKy P w s.heap k b) (q : Q false s) : wpAny (model P w) A (ofAClassStatement 8 (.ref b)) Q E s := by
  have ty := x.typeIs
  obtain ⟨o, its, n, e1, e2, e3, e4⟩ := x
  have sm := items_sm e4
  unfold ofAClassStatement
  refine wpAny_bind (wpAny_typeOf ty ?_)
  dsimp only
  simp only [show (("tuple" : String) == "tuple") = true from by decide, if_true, Bool.not_true, Bool.false_eq_true, if_false]
  try refine wpAny_bind (wpAny_pure ?_)
  try simp only [Bool.not_true, Bool.false_eq_true, if_false]
  refine wpAny_bind (m := seqItems? (.ref b)) (wpAny_seqItems e1 e3 ?_)
  dsimp only
  refine wpAny_bind ?_
  show wpAny (model P w) A (forIn its _ _) _ _ _
  rw [← Array.forIn_toList]
  refine wpAny_forIn_list _ (fun todo acc s2 => (s2 = s ∧ acc.1 = none) ∧ ∀ u ∈ todo, Sm u) _ (fun u todo acc s2 z => ?_) (fun acc s2 z => ?_) _ _ ⟨⟨rfl, rfl⟩, sm⟩
  · obtain ⟨⟨rfl, _⟩, each⟩ := z
    rw [cls_sm (each u List.mem_cons_self)]
    refine wpAny_bind (wpAny_pure ?_)
    simp only [Bool.false_eq_true, if_false]
    exact wpAny_pure ⟨⟨rfl, rfl⟩, fun y hy => each y (List.mem_cons_of_mem _ hy)⟩
  · obtain ⟨a1, a2⟩ := acc
    obtain ⟨⟨rfl, z1⟩, _⟩ := z
    cases z1
    exact wpAny_pure q
theorem hbv_tky {k : List Key} {b : Addr} {Q : Bool → Shared → Prop} (x : TKy P w s.heap k b) (q : ∀ r, Q r s) : wpAny (model P w) A (hashByValue 8 (.ref b)) Q E s := by
  have ty := x.typeIs
  obtain ⟨o, its, n, e1, e2, e3, e4⟩ := x
  have sm := items_sm e4
  unfold hashByValue
  refine wpAny_bind (wpAny_specialOf ty F.slot_tuple_hash.lookup ?_)
  refine wpAny_bind (m := seqItems? (.ref b)) (wpAny_seqItems e1 e3 ?_)
  refine wpAny_bind ?_
  show wpAny (model P w) A (forIn its _ _) _ _ _
  rw [← Array.forIn_toList]
  refine wpAny_forIn_list _ (fun todo acc s2 => (s2 = s ∧ acc.1 = none) ∧ ∀ u ∈ todo, Sm u) _ (fun u todo acc s2 z => ?_) (fun acc s2 z => ?_) _ _ ⟨⟨rfl, rfl⟩, sm⟩
  · obtain ⟨⟨rfl, _⟩, each⟩ := z
    rw [hbv_sm (each u List.mem_cons_self)]
    refine wpAny_bind (wpAny_pure ?_)
    cases plainKind u with
    | true =>
      simp only [Bool.not_true, Bool.false_eq_true, if_false]
      exact wpAny_pure ⟨⟨rfl, rfl⟩, fun y hy => each y (List.mem_cons_of_mem _ hy)⟩
    | false =>
      simp only [Bool.not_false, if_true]
      exact wpAny_pure (wpAny_pure (q false))
  · obtain ⟨a1, a2⟩ := acc
    obtain ⟨⟨rfl, z1⟩, _⟩ := z
    cases z1
    exact wpAny_pure (q true)
theorem byv {α : Type} {k : List Key} {b : Addr} {k2 : Bool → Sem α} {Q : α → Shared → Prop} (fl : Bool) (x : TKy P w s.heap k b) (q : ∀ r, wpAny (model P w) A (k2 r) Q E s) :
    wpAny (model P w) A (if fl = true then hashByValue 8 (.ref b) >>= k2 else pure true >>= k2) Q E s := by
  cases fl with
  | true => exact wpAny_bind (hbv_tky x q)
  | false => exact wpAny_bind (wpAny_pure (q true))
theorem _root_.L2.TabOk.same {t t2 : SetTable} {hs : List Int} (T : TabOk t hs) (e1 : t2.place = t.place) (e2 : t2.dummies = t.dummies) (e3 : t2.mask = t.mask) : TabOk t2 hs :=
  ⟨by rw [e1]; exact T.ris, e2.trans T.dm, by rw [e1]; exact T.sz, by rw [e3]; exact T.mok, by rw [e1, e3]; exact T.bd, by rw [e1, e3]; exact T.reach⟩
/-- nobody sees a search among tuples -/
theorem unseen {k : List Key} {b : Addr} {Q : Bool → Shared → Prop} (x : TKy P w s.heap k b) {us : List Value} (hu : ∀ u ∈ us, ∃ k2 c, TKy P w s.heap k2 c ∧ u = .ref c) (q : Q false s) : wpAny (model P w) A (searchCouldBeSeen (.ref b) us) Q E s := by
  unfold searchCouldBeSeen
  refine wpAny_bind (wpAny_forIn_list _ (fun todo acc s2 => (s2 = s ∧ acc.1 = none) ∧ ∀ u ∈ todo, ∃ k2 c, TKy P w s.heap k2 c ∧ u = .ref c) _ (fun u todo acc s2 z => ?_) (fun acc s2 z => ?_) _ _ ⟨⟨rfl, rfl⟩, hu⟩)
  · obtain ⟨⟨rfl, _⟩, each⟩ := z
    obtain ⟨k2, c, y, rfl⟩ := each u List.mem_cons_self
    have next : ∀ u ∈ todo, ∃ k2 c, TKy P w s2.heap k2 c ∧ u = .ref c := fun y hy => each y (List.mem_cons_of_mem _ hy)
    dsimp only
    rcases Bool.eq_false_or_eq_true (b == c || (carriedByValue (.ref b) && carriedByValue (.ref c))) with g | g
    · exact wp_if_pos g (wpAny_pure ⟨⟨rfl, rfl⟩, next⟩)
    · refine wp_if_neg (by rw [g]; exact Bool.false_ne_true) (wpAny_bind (wpAny_eqIsQuiet_tuple x ?_))
      simp only [Bool.not_true, Bool.false_eq_true, if_false]
      refine wpAny_bind (wpAny_eqIsQuiet_tuple y ?_)
      simp only [Bool.not_true, Bool.false_eq_true, if_false]
      refine wpAny_bind (cls_tky x ?_)
      simp only [Bool.false_eq_true, if_false]
      refine wpAny_bind (cls_tky y ?_)
      simp only [Bool.false_eq_true, if_false]
      exact wpAny_pure ⟨⟨rfl, rfl⟩, next⟩
  · obtain ⟨a1, a2⟩ := acc
    obtain ⟨⟨rfl, z1⟩, _⟩ := z
    cases z1
    exact wpAny_pure q
def rowOf (P : Program) (w : World) (q : Addr × List Key) : Int × Value := (hsh P w q.2, .ref q.1)
/-- the set at b: its members m (where, what), row for row -/
structure Lies (P : Program) (w : World) (h : Heap) (b : Addr) (m : List (Addr × List Key)) (rows : Array (Int × Value)) (e : Nat) (t : SetTable) : Prop where
  obj : ∃ o, h.get? b = some o ∧ o.ExactSet ∧ o.data = .set rows e t
  eqs : rows.toList = m.map (rowOf P w)
  good : TabOk t (m.map fun q => hsh P w q.2)
  once : (m.map (·.2)).Nodup
  each : ∀ q ∈ m, TKy P w h q.2 q.1
  ledg : w.params.followText "set-order" = true ∨ t.led = true
  air : m.length * 5 < t.mask * 3
  most : m.length < 64
variable {b : Addr} {m : List (Addr × List Key)} {rows : Array (Int × Value)} {e : Nat} {t : SetTable}
theorem eqs_len (h : rows.toList = m.map (rowOf P w)) : rows.size = m.length := by
  rw [← Array.length_toList, h, List.length_map]
theorem fit_of (sz : t.place.size = rows.size) (dm : t.dummies = #[]) (le : rows.size ≤ t.mask) : t.fits rows.size = true := by
  unfold SetTable.fits SetTable.fill
  rw [dm]
  simp only [Bool.and_eq_true, beq_iff_eq, decide_eq_true_eq, List.size_toArray, List.length_nil]
  exact ⟨sz, by omega⟩
theorem Lies.place (R : Lies P w s.heap b m rows e t) : t.place.size = m.length := R.good.sz.trans (List.length_map _)
theorem Lies.fit (R : Lies P w s.heap b m rows e t) : t.fits rows.size = true := fit_of (R.place.trans (eqs_len R.eqs).symm) R.good.dm (by have := eqs_len R.eqs; have := R.air; omega)
theorem row_at (h : rows.toList = m.map (rowOf P w)) {i : Nat} {q : Addr × List Key} (hi : m[i]? = some q) : rows[i]? = some (rowOf P w q) := by
  rw [← Array.getElem?_toList, h, List.getElem?_map, hi, Option.map_some]
theorem Lies.sound (R : Lies P w s.heap b m rows e t) : ¬ t.gaveWay = true := by
  show ¬ (t.mask % 2 == 0) = true
  rw [mask_odd R.good.mok]
  decide
end
end PuT
namespace PuT
open PySem PySem.Spec PyProof.Rows L2 PuS Pu
section
variable {P : Program} {w : World} {A : Around} {E : Value → Shared → Prop} {s : Shared} {b : Addr} {m : List (Addr × List Key)} {rows : Array (Int × Value)} {e : Nat} {t : SetTable}
theorem nth_plain (mk : Nat) : ∀ (n : Nat) (p : SetTable.Probe), p.dummy = none → (nth mk p n).dummy = none
  | 0, _, h => h
  | n + 1, p, h => nth_plain mk n (adv mk p) (by unfold adv; split <;> exact h)
/-- the search, as adding asks for it: the tuple is there, or the first free slot on its way -/
theorem look (R : Lies P w s.heap b m rows e t) {x : Addr} {k : List Key} (hx : TKy P w s.heap k x) (hu : A.units < cLine) {Q : SetFound → Shared → Prop} (inn : k ∈ m.map (·.2) → Q (.there none) s)
    (out : ∀ K, k ∉ m.map (·.2) → way t.mask (hsh P w k) K ∉ t.place.toList → (∀ c, c < K → way t.mask (hsh P w k) c ∈ t.place.toList) → Q (.free (way t.mask (hsh P w k) K) false) s) :
    wpAny (model P w) A (setSearch b (.ref x) (hsh P w k) true) Q E s := by
  have air := R.air
  obtain ⟨K, lim, nK, occ⟩ := R.good.first (by rw [List.length_map]; omega) (hsh P w k)
  have out := fun z => out K z nK occ
  have small : 10 * SetTable.turns t.mask ≤ 99000 := by
    unfold SetTable.turns
    rcases R.good.mok with z | z | z <;> omega
  have siz := R.place
  -- where a member of this key stands: on the way, ahead of K
  have ahead : ∀ (i : Nat) (q : Addr × List Key), m[i]? = some q → q.2 = k → ∃ c, c < K ∧ t.place.toList[i]? = some (way t.mask (hsh P w k) c) := fun i q hq hk => by
    have il : i < t.place.toList.length := by
      rw [Array.length_toList, siz]
      exact (List.getElem?_eq_some_iff.mp hq).1
    obtain ⟨c, c1, c2⟩ := R.good.before (i := i) nK (by rw [List.getElem?_map, hq, ← hk]; rfl) (List.getElem?_eq_getElem il)
    exact ⟨c, c1, by rw [c2]; exact List.getElem?_eq_getElem il⟩
  obtain ⟨o, ho, hex, hd⟩ := R.obj
  suffices walk : ∀ (f c : Nat) (at_ : Option SetTable.Probe), at_.getD (t.probeStart (hsh P w k)) = nth t.mask (t.probeStart (hsh P w k)) c → c ≤ K → K - c < f →
      (∀ (i : Nat) (q : Addr × List Key), m[i]? = some q → q.2 = k → ∃ c2, c ≤ c2 ∧ c2 < K ∧ t.place.toList[i]? = some (way t.mask (hsh P w k) c2)) →
      wpAny (model P w) A (setSearchFrom b (.ref x) (hsh P w k) true f at_) Q E s by
    unfold setSearch
    exact walk 100000 0 none rfl (Nat.zero_le K) (by omega) fun i q hq hk => let ⟨c, c1, c2⟩ := ahead i q hq hk; ⟨c, Nat.zero_le c, c1, c2⟩
  intro f
  induction f with
  | zero => exact fun c _ _ _ z => absurd z (Nat.not_lt_zero _)
  | succ f ih =>
    intro c at_ ea le lt on
    rw [setSearchFrom_succ]
    refine wpAny_bind (wpAny_setState_of ho hd R.fit ?_)
    dsimp only
    refine wp_if_neg R.sound ?_
    try refine wpAny_bind (wpAny_pure ?_)
    have wj : ∀ n, (nth t.mask (t.probeStart (hsh P w k)) n).j = way t.mask (hsh P w k) n := fun _ => rfl
    have hv : ∀ (i : Nat) (q : Addr × List Key), m[i]? = some q → (rows[i]?.map (·.1)).getD 0 = hsh P w q.2 := fun i q hq => by
      rw [row_at R.eqs hq]
      rfl
    have sp := go_spec t R.good.ris R.good.dm (fun i => (rows[i]?.map (·.1)).getD 0) (hsh P w k) (10 * SetTable.turns t.mask) (K - c) (nth t.mask (t.probeStart (hsh P w k)) c) (nth_plain _ _ _ rfl) (by omega)
      (fun n hn => by rw [← nth_add, wj]; exact occ _ (by omega)) (by rw [← nth_add, wj, show c + (K - c) = K by omega]; exact nK)
    simp only [← nth_add, wj] at sp
    rcases sp with ⟨n, i, s1, s2, s3, s4, s5⟩ | ⟨s4, s5⟩
    · have pr : t.probe (fun i => (rows[i]?.map (·.1)).getD 0) (hsh P w k) (at_.getD (t.probeStart (hsh P w k))) = _ := (congrArg (t.probe _ _) ea).trans s5
      rw [pr]
      dsimp only
      have il : i < m.length := by
        rw [← siz, ← Array.length_toList]
        exact (List.getElem?_eq_some_iff.mp s2).1
      obtain ⟨q, hq⟩ : ∃ q, m[i]? = some q := ⟨_, List.getElem?_eq_getElem il⟩
      have qm := List.mem_of_getElem? hq
      have slot := slot_live R.good.ris s2
      have tail : wpAny (model P w) A (searchRest b (.ref x) (hsh P w k) true f rows t (way t.mask (hsh P w k) (c + n)) i (nth t.mask (t.probeStart (hsh P w k)) (c + (n + 1)))) Q E s := by
        unfold searchRest
        rw [row_at R.eqs hq]
        dsimp only [rowOf]
        refine wpAny_bind (wpAny_holding (wpAny_eqBool_tuple hu (R.each q qm) hx (wpAny_bind (wpAny_setState_of ho hd R.fit ?_))))
        dsimp only
        by_cases same : q.2 = k
        · exact wp_if_pos (by simp [same]) (wpAny_pure (inn (List.mem_map.mpr ⟨q, qm, same⟩)))
        · refine wp_if_neg (by simp [same]) ?_
          try refine wpAny_bind (wpAny_pure ?_)
          rw [sameMem]
          dsimp only
          simp only [if_true, slot, row_at R.eqs hq, rowOf]
          refine wpAny_bind (wpAny_isSame_ref_self (wpAny_bind (wpAny_pure ?_)))
          simp only [if_true]
          refine wp_if_neg (by simp [same]) (ih (c + (n + 1)) _ rfl (by omega) (by omega) fun i2 q2 h2 k2 => ?_)
          obtain ⟨c2, g1, g2, g3⟩ := on i2 q2 h2 k2
          refine ⟨c2, ?_, g2, g3⟩
          rcases Nat.lt_trichotomy c2 (c + n) with z | z | z
          · refine absurd ((hv i2 q2 h2).trans (by rw [k2])) (s4 (c2 - c) i2 (by omega) ?_)
            rw [show c + (c2 - c) = c2 by omega]
            exact g3
          · rw [z] at g3
            have two := (slot_live R.good.ris g3).symm.trans slot
            injection two with two
            rw [two, hq] at h2
            injection h2 with h2
            exact absurd (by rw [h2]; exact k2) same
          · omega
      by_cases hl : t.led = true
      · refine wp_if_neg (by rw [hl]; decide) ?_
        try refine wpAny_bind (wpAny_pure ?_)
        exact tail
      · refine wp_if_pos (by simp [hl]) (wpAny_bind (unseen hx (fun y hy => ?_) (wp_if_neg (by decide) ?_)))
        · obtain ⟨r, hr, rfl⟩ := List.mem_map.mp hy
          have r1 : r ∈ rows.toList := by
            have z : r ∈ rows ∧ r.1 = hsh P w k := by simpa using hr
            exact Array.mem_toList_iff.mpr z.1
          rw [R.eqs] at r1
          obtain ⟨q2, h2, rfl⟩ := List.mem_map.mp r1
          exact ⟨q2.2, q2.1, R.each q2 h2, rfl⟩
        · try refine wpAny_bind (wpAny_pure ?_)
          exact tail
    · have pr : t.probe (fun i => (rows[i]?.map (·.1)).getD 0) (hsh P w k) (at_.getD (t.probeStart (hsh P w k))) = _ := (congrArg (t.probe _ _) ea).trans s5
      rw [pr]
      dsimp only
      have eK : c + (K - c) = K := by omega
      rw [eK]
      refine wpAny_pure (out fun z => ?_)
      obtain ⟨q, qm, qk⟩ := List.mem_map.mp z
      obtain ⟨i, hi⟩ := List.getElem?_of_mem qm
      obtain ⟨c2, g1, g2, g3⟩ := on i q hi qk
      refine absurd ((hv i q hi).trans (by rw [qk])) (s4 (c2 - c) i (by omega) ?_)
      rw [show c + (c2 - c) = c2 by omega]
      exact g3
end
end PuT
namespace PuT
open PySem PySem.Spec PyProof.Rows L2 PuS Pu
section
variable {P : Program} {w : World} {A : Around} {E : Value → Shared → Prop} {s : Shared} {b : Addr} {m : List (Addr × List Key)} {rows : Array (Int × Value)} {e : Nat} {t : SetTable}
theorem tky_but {h h2 : Heap} {k : List Key} {a : Addr} {o : Obj} (x : TKy P w h k a) (ho : h.get? b = some o) (hd : o.data = .set rows e t) (sb : Heap.SameBut b h h2) : TKy P w h2 k a := by
  obtain ⟨o2, its, n, e1, e2, e3, e4⟩ := x
  refine ⟨o2, its, n, (sb.2 a fun z => ?_).trans e1, e2, e3, e4⟩
  rw [z, ho] at e1
  injection e1 with e1
  rw [← e1, hd] at e3
  cases e3
theorem all_range {α : Type} (l : List α) : (List.range l.length).filterMap (fun i => l[i]?) = l := by
  have h : (List.range l.length).map (fun i => l[i]?) = l.map some := by
    refine List.ext_getElem (by simp) fun i h1 h2 => ?_
    simp at h1
    simp [h1]
  have g : (List.range l.length).filterMap (fun i => l[i]?) = ((List.range l.length).map (fun i => l[i]?)).filterMap id := by
    rw [List.filterMap_map]
    rfl
  rw [g, h, List.filterMap_map]
  exact List.filterMap_some
theorem in_order (er : rows.toList = m.map (rowOf P w)) : ∀ l : List Nat, (∀ i ∈ l, i < m.length) →
    l.filterMap (fun i => rows[i]?) = (l.filterMap (fun i => m[i]?)).map (rowOf P w) ∧ (l.filterMap (fun i => m[i]?)).map (fun q => hsh P w q.2) = l.map fun i => (rows.map (·.1)).getD i 0
  | [], _ => ⟨rfl, rfl⟩
  | i :: l, h => by
    obtain ⟨g1, g2⟩ := in_order er l fun j hj => h j (List.mem_cons_of_mem _ hj)
    obtain ⟨q, hq⟩ : ∃ q, m[i]? = some q := ⟨_, List.getElem?_eq_getElem (h i List.mem_cons_self)⟩
    have hr := row_at er hq
    have hg : (rows.map (·.1)).getD i 0 = hsh P w q.2 := by
      rw [Array.getD_eq_getD_getElem?, Array.getElem?_map, hr]
      rfl
    rw [List.filterMap_cons_some hr, List.filterMap_cons_some hq, List.map_cons, List.map_cons, List.map_cons, g1, g2, hg]
    exact ⟨rfl, rfl⟩
theorem laid_anew {o : Obj} (ho : s.heap.get? b = some o) (hex : o.ExactSet) (hd : o.data = .set rows e t) (er : rows.toList = m.map (rowOf P w)) (sz : t.place.size = rows.size) (dm : t.dummies = #[]) (le : rows.size ≤ t.mask)
    (once : (m.map (·.2)).Nodup) (each : ∀ q ∈ m, TKy P w s.heap q.2 q.1) (ledg : w.params.followText "set-order" = true ∨ t.led = true) (most : m.length < 64) {want M : Nat} (ew : SetTable.sizeAbove want - 1 = M) (okM : MaskOk M)
    (cap : SetTable.sizeAbove want ≤ 128) (air : m.length * 5 < M * 3) {Q : Unit → Shared → Prop} (kq : ∀ h2 m2 rows2 e2 t2, Heap.SameBut b s.heap h2 → Lies P w h2 b m2 rows2 e2 t2 → m2.Perm m → Q () { s with heap := h2 }) :
    wpAny (model P w) A (setRelay b want) Q E s := by
  have rl := eqs_len er
  obtain ⟨t2, ord, e1, e2, e3, e4, e5, e6, e7⟩ := relaid_ok t (hs := rows.map (·.1)) (wanted := want) ew okM (by rw [Array.size_map, rl]; omega)
  rw [Array.size_map, rl] at e2
  obtain ⟨g1, g2⟩ := in_order er ord.toList fun i hi => List.mem_range.mp (e2.mem_iff.mp hi)
  have pm : (ord.toList.filterMap (fun i => m[i]?)).Perm m := by
    have := e2.filterMap (fun i => m[i]?)
    rwa [all_range] at this
  have g3 : (ord.filterMap (rows[·]?)).toList = (ord.toList.filterMap (fun i => m[i]?)).map (rowOf P w) := by rw [Array.toList_filterMap]; exact g1
  rw [← g2] at e3
  generalize ord.toList.filterMap (fun i => m[i]?) = m2 at pm g3 e3
  have zz : (ord.filterMap (rows[·]?)).size = rows.size := (eqs_len g3).trans (pm.length_eq.trans rl.symm)
  rw [setRelay_eq]
  refine wpAny_bind (wpAny_setState_of ho hd (fit_of sz dm le) ?_)
  dsimp only
  refine wp_if_neg (by rw [sizeLine_eq]; omega) ?_
  try refine wpAny_bind (wpAny_pure ?_)
  rw [e1]
  dsimp only
  refine wpAny_bind (wp_if_neg (by rw [zz]; simp) ?_)
  try refine wpAny_bind (wpAny_pure ?_)
  refine wpAny_pure ?_
  dsimp only
  have sb := Heap.SameBut.update s.heap b (Obj.putSet (ord.filterMap (rows[·]?)) t2)
  refine wpAny_storeSet_of ho hd (kq _ m2 (ord.filterMap (rows[·]?)) (e + 1) t2 sb ?_ pm) (by rw [zz, rl, sizeLine_eq]; omega)
  exact { obj := ⟨_, store_at ho hd, hex, rfl⟩, eqs := g3, good := e3, once := (pm.map (·.2)).nodup_iff.mpr once, each := fun q hq => tky_but (each q (pm.mem_iff.mp hq)) ho hd sb
          ledg := ledg.imp id fun z => e5.trans z, air := by rw [pm.length_eq, e4]; exact air, most := by rw [pm.length_eq]; exact most }
theorem put_in (R : Lies P w s.heap b m rows e t) {x : Addr} {k : List Key} (hx : TKy P w s.heap k x) (hu : A.units < cLine) (few : m.length + 1 < 64) {Q : Bool → Shared → Prop}
    (kq : ∀ r h2 m2 rows2 e2 t2, Heap.SameBut b s.heap h2 → Lies P w h2 b m2 rows2 e2 t2 → (k ∈ m.map (·.2) → m2 = m) → (k ∉ m.map (·.2) → m2.Perm ((x, k) :: m)) → Q r { s with heap := h2 }) :
    wpAny (model P w) A (setAddHashed b (.ref x) (hsh P w k)) Q E s := by
  obtain ⟨o, ho, hex, hd⟩ := R.obj
  have rl := eqs_len R.eqs
  have air := R.air
  unfold setAddHashed
  refine wpAny_holding ?_
  rw [show (100000 : Nat) = 99999 + 1 from rfl, setAddHashedIn_succ]
  refine wpAny_bind (wpAny_setState_of ho hd R.fit ?_)
  dsimp only
  refine wp_if_neg (by simp [byScan, Value.scannable]) ?_
  try refine wpAny_bind (wpAny_pure ?_)
  refine wpAny_bind (look R hx hu (fun inn => wpAny_pure (kq false s.heap m rows e t (Heap.SameBut.refl b s.heap) R (fun _ => rfl) fun z => absurd inn z)) fun K out nK occ => ?_)
  dsimp only
  refine wpAny_bind (wpAny_setState_of ho hd R.fit ?_)
  dsimp only
  obtain ⟨p1, p2, p3, p4, p5, -, -, -, p9⟩ := R.good.put nK occ
  rw [List.length_map] at p2 p9
  generalize t.put (way t.mask (hsh P w k) K) = tp at p1 p3 p4 p5 p9 ⊢
  obtain ⟨t1, at_⟩ := tp
  dsimp only at p1 p3 p4 p5 p9 ⊢
  rw [← p1] at p2 p3
  clear p1
  refine byv _ hx fun r => ?_
  generalize ht2 : (if r = true then t1 else { t1 with plain := false }) = t2
  have f1 : t2.place = t1.place := by subst ht2; cases r <;> rfl
  have f2 : t2.dummies = t1.dummies := by subst ht2; cases r <;> rfl
  have f3 : t2.mask = t1.mask := by subst ht2; cases r <;> rfl
  have f4 : t2.led = t1.led := by subst ht2; cases r <;> rfl
  replace p3 := p3.same f1 f2 f3
  replace p4 := f3.trans p4
  replace p5 := f4.trans p5
  replace p9 : t2.fill = m.length + 1 := by
    rw [← p9]
    show t2.place.size + t2.dummies.size = t1.place.size + t1.dummies.size
    rw [f1, f2]
  clear ht2 f1 f2 f3 f4
  clear r
  generalize t2 = t1 at p3 p4 p5 p9 ⊢
  have pm := put_perm m at_ (x, k)
  have q1 : (SetTable.insertAt rows at_ (hsh P w k, Value.ref x)).toList = (m.take at_ ++ (x, k) :: m.drop at_).map (rowOf P w) := by
    rw [SetTable.toList_insertAt, R.eqs, List.map_append, List.map_cons, List.map_take, List.map_drop]
    rfl
  have q2 : (m.map fun q => hsh P w q.2).take at_ ++ hsh P w k :: (m.map fun q => hsh P w q.2).drop at_ = (m.take at_ ++ (x, k) :: m.drop at_).map fun q => hsh P w q.2 := by
    rw [List.map_append, List.map_cons, List.map_take, List.map_drop]
  rw [q2] at p3
  generalize m.take at_ ++ (x, k) :: m.drop at_ = m1 at pm q1 p3
  generalize SetTable.insertAt rows at_ (hsh P w k, Value.ref x) = rows1 at q1 ⊢
  have l1 : m1.length = m.length + 1 := pm.length_eq
  have r1 := eqs_len q1
  have sb := Heap.SameBut.update s.heap b (Obj.putSet rows1 t1)
  have ho1 := store_at (es' := rows1) (t' := t1) ho hd
  refine wpAny_bind (wpAny_storeSet_of ho hd ?_ (by rw [r1, l1, sizeLine_eq]; omega))
  generalize s.heap.update b (Obj.putSet rows1 t1) = h1 at sb ho1 ⊢
  have once : (m1.map (·.2)).Nodup := (pm.map (·.2)).nodup_iff.mpr (by rw [List.map_cons]; exact List.nodup_cons.mpr ⟨out, R.once⟩)
  have each : ∀ q ∈ m1, TKy P w h1 q.2 q.1 := fun q hq => (List.mem_cons.mp (pm.mem_iff.mp hq)).elim (fun z => by rw [z]; exact tky_but hx ho hd sb) fun z => tky_but (R.each q z) ho hd sb
  have ledg : w.params.followText "set-order" = true ∨ t1.led = true := R.ledg.imp id fun z => p5.trans z
  have full : t1.tooFull = decide ((m.length + 1) * 5 ≥ t1.mask * 3) := by
    unfold SetTable.tooFull
    rw [p9]
  by_cases tf : t1.tooFull = true
  · first
      | (refine wpAny_bind ?_; refine wp_if_pos (by simp [tf]) ?_)
      | (refine wp_if_pos (by simp [tf]) ?_; refine wpAny_bind ?_)
    have tf2 := tf
    rw [full, decide_eq_true_eq, p4] at tf2
    rw [rl]
    have which : (t.mask = 7 ∧ m.length + 1 = 5) ∨ (t.mask = 31 ∧ m.length + 1 = 19) := by
      rcases R.good.mok with z | z | z <;> rw [z] at air tf2 <;> omega
    have le1 : rows1.size ≤ t1.mask := by
      rw [p4, r1, l1]
      omega
    have sz1 : t1.place.size = rows1.size := by rw [p3.sz, List.length_map, r1]
    have more : ∀ M, SetTable.sizeAbove (SetTable.grown (m.length + 1)) - 1 = M → MaskOk M → SetTable.sizeAbove (SetTable.grown (m.length + 1)) ≤ 128 → (m.length + 1) * 5 < M * 3 →
        wpAny (model P w) A (setRelay b (SetTable.grown (m.length + 1))) (fun _ s2 => wpAny (model P w) A (pure true) Q E s2) E { s with heap := h1 } := fun M z1 z2 z3 z4 =>
      laid_anew (s := { s with heap := h1 }) ho1 hex rfl q1 sz1 p3.dm le1 once each ledg (by omega) z1 z2 z3 (by rw [l1]; exact z4) fun h2 m2 rows2 e2 t2 sb2 R2 pm2 =>
        wpAny_pure (kq true h2 m2 rows2 e2 t2 (sb.trans sb2) R2 (fun z => absurd z out) fun _ => pm2.trans pm)
    rcases which with ⟨-, z⟩ | ⟨-, z⟩
    · exact more 31 (by rw [z, size_20]) (.inr (.inl rfl)) (by rw [z, size_20]; decide) (by omega)
    · exact more 127 (by rw [z, size_76]) (.inr (.inr rfl)) (by rw [z, size_76]; decide) (by omega)
  · first
      | refine wp_if_neg (by simp [tf]) ?_
      | (refine wpAny_bind ?_; refine wp_if_neg (by simp [tf]) ?_; refine wpAny_pure ?_)
    have tf2 := tf
    rw [full, decide_eq_true_eq] at tf2
    exact wpAny_pure (kq true h1 m1 rows1 (e + 1) t1 sb { obj := ⟨_, ho1, hex, rfl⟩, eqs := q1, good := p3, once := once, each := each, ledg := ledg, air := by omega, most := by omega } (fun z => absurd z out) fun _ => pm)
end
end PuT
namespace PuT
open PySem PySem.Spec PyProof.Rows L2 PuS Pu
section
variable {P : Program} {w : World} {A : Around} {E : Value → Shared → Prop} {s : Shared} {b : Addr} {m : List (Addr × List Key)} {rows : Array (Int × Value)} {e : Nat} {t : SetTable}
theorem Lies.on {h h2 : Heap} (R : Lies P w h b m rows e t) (ob : ∀ o, h.get? b = some o → h2.get? b = some o) (ea : ∀ q ∈ m, TKy P w h2 q.2 q.1) : Lies P w h2 b m rows e t :=
  { R with obj := let ⟨o, x, y⟩ := R.obj; ⟨o, ob o x, y⟩, each := ea }
theorem tky_up {h h2 : Heap} {k : List Key} {a : Addr} (x : TKy P w h k a) (u : ∀ c o, h.get? c = some o → h2.get? c = some o) : TKy P w h2 k a :=
  let ⟨o, its, n, e1, r⟩ := x; ⟨o, its, n, u _ _ e1, r⟩
/-- the set at S holds the first i of ks; what stood in h0 still stands -/
def Hold (P : Program) (w : World) (h0 : Heap) (S : Addr) (ks : List (Addr × List Key)) (i : Nat) (h : Heap) : Prop :=
  (∀ c o, h0.get? c = some o → h.get? c = some o) ∧ ∃ m rows e t, Lies P w h S m rows e t ∧ m.length ≤ i ∧ (∀ q ∈ m, q ∈ ks) ∧ ∀ z, z ∈ m.map (·.2) ↔ z ∈ (ks.take i).map (·.2)
theorem hold_new {h0 h : Heap} {S : Addr} {ks : List (Addr × List Key)} (u : ∀ c o, h0.get? c = some o → h.get? c = some o) (ho : h.get? S = some { cls := .type "set", dict := none, data := .set #[] 0 (.fresh 0 0 (!w.params.followText "set-order")) }) : Hold P w h0 S ks 0 h :=
  ⟨u, [], #[], 0, _, { obj := ⟨_, ho, ⟨rfl, rfl, rfl⟩, rfl⟩, eqs := rfl, good := ⟨List.Pairwise.nil, rfl, rfl, .inl rfl, fun x hx => absurd hx List.not_mem_nil, fun i h j hi => by simp at hi⟩, once := List.nodup_nil
                       each := fun q hq => absurd hq List.not_mem_nil, ledg := by show _ ∨ (!w.params.followText "set-order") = true; cases w.params.followText "set-order" <;> simp
                       air := by show 0 * 5 < 7 * 3; decide, most := by show 0 < 64; decide }, Nat.le_refl _, fun q hq => absurd hq List.not_mem_nil, fun z => by simp⟩
theorem loopT {R : Result → Shared → Prop} {I S : Addr} {fp wr : List Addr} {G : Array GenState → Array GenState → Prop} {n : Nat} {Pv : Nat → Value → Prop} {St : Nat → Shared → Prop} (W : WalksS P w A.in1 I fp wr G n Pv St) (nS : S ∉ fp)
    {h0 : Heap} {ks : List (Addr × List Key)} (hn : n = ks.length) (few : ks.length < 64) (hu : A.in1.units < cLine) (val : ∀ i v, Pv i v → ∃ q, ks[i]? = some q ∧ v = .ref q.1) (each : ∀ q ∈ ks, TKy P w h0 q.2 q.1) (S0 : h0.get? S = none)
    (wr0 : ∀ c ∈ wr, h0.get? c = none) :
    ∀ (m i : Nat) (s : Shared), n - i = m → i ≤ n → St i s → Hold P w h0 S ks i s.heap → (∀ s', Moved (S :: wr) G s s' → Hold P w h0 S ks n s'.heap → R (.ok (.ret .none)) s') →
      codeAny (model P w) A (.builtin "set.update.loop" ⟨[.ref S, .ref I], []⟩) R s := by
  have nw : S ∉ wr := fun z => nS (W.sub _ z)
  have up : ∀ b ∈ wr, b ∈ S :: wr := fun b z => List.mem_cons_of_mem _ z
  have mvd : ∀ {i : Nat} {s s' : Shared}, Moved wr G s s' → Hold P w h0 S ks i s.heap → Hold P w h0 S ks i s'.heap := fun mv ⟨a1, m, rows, e, t, a2, a3, a4, a5⟩ => by
    have k0 : ∀ c o, h0.get? c = some o → _ := fun c o z => mv.heap c o (fun zz => by rw [wr0 c zz] at z; cases z) (a1 c o z)
    exact ⟨k0, m, rows, e, t, a2.on (fun o z => mv.heap S o nw z) (fun q hq => tky_up (each q (a4 q hq)) k0), a3, a4, a5⟩
  intro m
  induction m with
  | zero =>
    intro i s e0 e1 st R0 hR
    obtain rfl : i = n := by omega
    refine codeAny_builtin F.entry_set_update_loop ?_
    rw [Around.under_plainId F.plain_set_update_loop _]
    exact wpAny_bind (W.done s _ _ st fun s' mv => wpAny_pure (hR s' (mv.mono up) (mvd mv R0)))
  | succ m ih =>
    intro i s e0 e1 st R0 hR
    refine codeAny_builtin F.entry_set_update_loop ?_
    rw [Around.under_plainId F.plain_set_update_loop _]
    refine wpAny_bind (W.item i s _ _ (by omega) st fun v s' pv st' mv => ?_)
    obtain ⟨q, hk, rfl⟩ := val i v pv
    obtain ⟨k0, mm, rows, e, t, r1, r2, r3, r4⟩ := mvd mv R0
    have qm := List.mem_of_getElem? hk
    have hx : TKy P w s'.heap q.2 q.1 := tky_up (each q qm) k0
    show wpAny _ A.in1 (holding [Value.ref q.1] (setAdd S (Value.ref q.1)) >>= _) _ _ s'
    unfold setAdd
    refine wpAny_bind (wpAny_holding (wpAny_holding (wpAny_bind (wpAny_pyHash_tuple hu hx (put_in (s := { s' with toks := s'.toks + (q.2.length + 1) }) r1 hx hu (by omega) fun rr h2 m2 rows2 e2 t2 sb R2 same more => ?_)))))
    have k2 : ∀ c o, h0.get? c = some o → h2.get? c = some o := fun c o z => (sb.2 c fun zz => by rw [zz, S0] at z; cases z).trans (k0 c o z)
    have R3 : Hold P w h0 S ks (i + 1) h2 := by
      refine ⟨k2, m2, rows2, e2, t2, R2, ?_, ?_, ?_⟩
      · by_cases c : q.2 ∈ mm.map (·.2)
        · rw [same c]; omega
        · rw [(more c).length_eq, List.length_cons]; omega
      · by_cases c : q.2 ∈ mm.map (·.2)
        · rw [same c]; exact r3
        · exact fun y hy => (List.mem_cons.mp ((more c).mem_iff.mp hy)).elim (fun z => by rw [z]; exact qm) (r3 y)
      · intro z
        rw [L2.take_next hk, List.map_append, List.mem_append, ← r4 z, List.map_singleton, List.mem_singleton]
        by_cases c : q.2 ∈ mm.map (·.2)
        · rw [same c]
          exact ⟨.inl, fun y => y.elim id fun y => by rw [y]; exact c⟩
        · rw [((more c).map (·.2)).mem_iff, List.map_cons, List.mem_cons]
          exact Or.comm
    refine wpAny_pure ⟨plainId_quiet F.plain_set_update_loop _, ih (i + 1) _ (by omega) (by omega) (W.frame _ s' _ _ st' (Nat.le_add_right _ _) fun b hb o e => ?_) R3 fun s'' mv' R4 => ?_⟩
    · exact (sb.2 b fun z => nS (by rw [← z]; exact hb)).trans e
    · exact hR s'' (Moved.trans W.gtrans ((mv.mono up).then_heap (Nat.le_add_right _ _) fun b o hb e => (sb.2 b fun z => hb (by rw [z]; exact List.mem_cons_self)).trans e) mv') R4
/-- what update makes of the new set -/
def UpdF (P : Program) (w : World) (A : Around) (s : Shared) (x : Value) (F : Heap → Prop) : Prop := ∀ (A' : Around) (E' : Value → Shared → Prop) (Q' : Unit → Shared → Prop), A'.handled = A.handled → A'.units ≤ A.units + 2 →
  (∀ h' tk, F h' → Q' () { s with heap := h', toks := tk }) → wpAny (model P w) A' (Builtin.Frozenset.updateFrom "set.__init__" s.heap.objs.size x) Q' E' { s with heap := nset w s }
set_option maxHeartbeats 3200000 in
theorem callF {x : Value} {F0 : Heap → Prop} {Q : Value → Shared → Prop} (U : UpdF P w A s x F0) (h : ∀ h' tk, F0 h' → Q (.ref s.heap.objs.size) { s with heap := h', toks := tk }) : wpAny (model P w) A (call (.type "set") [x]) Q E s := by
  obtain ⟨c, tl, hmro⟩ := F.called_set.mro
  have c1 := F.called_set.made
  have c2 := F.called_set.sub
  have c3 := F.called_set.notType
  have c4 := F.called_set.canCreate
  have c5 := F.typeCall_set_1 x
  refine wpAny_call (codeAny_of_tree ?_)
  show wpAny _ _ (callAny (.type "set") _) _ _ _
  refine wpAny_pure ⟨Code.quiet_builtin _ (by decide +kernel), codeAny_builtin F.entry_type_call ?_⟩
  rw [Around.under_plain (weight_type_call_type "set" [x] []) rfl]
  repeat (any_goals (first | assumption | wp_step))
  refine codeAny_mono (code_set_led1 x (E := E) (Q₁ := fun obj s₁ => obj = .ref s.heap.objs.size ∧ s₁ = { s with heap := nset w s }) ⟨rfl, rfl⟩) fun r s₁ hr => ?_
  cases r with
  | error e => exact hr
  | ok fl =>
    cases fl with
    | ret obj =>
      obtain ⟨rfl, rfl⟩ := hr
      have gS : (nset w s).get? s.heap.objs.size = some { cls := .type "set", dict := none, data := .set #[] 0 (.fresh 0 0 (!w.params.followText "set-order")) } := Heap.get?_push_size _ rfl
      have hT : Shared.TypeIs { s with heap := nset w s } (.ref s.heap.objs.size) "set" := ⟨_, gS, rfl⟩
      have c6 := F.called_set.init.lookup
      have c7 := F.called_set.init.bind (.ref s.heap.objs.size)
      repeat (any_goals (first | assumption | wp_step))
      refine codeAny_mono (codeAny_call_builtin (R := wants (fun r s₂ => r = .none ∧ ∃ h' tk, s₂ = { s with heap := h', toks := tk } ∧ F0 h') E) F.called_set.init.plain F.entry_set_init (check_set_init_1 hT ?_)) fun r₂ s₂ hr₂ => ?_
      · unfold Builtin.«set.__init__» noKeywords
        have u := fun (A' : Around) => U A'
        generalize Builtin.Frozenset.updateFrom = UF at u ⊢
        wp_walk
        refine u A.in1.in1 _ _ rfl (Nat.le_refl _) fun h' tk R => ?_
        exact wpAny_pure ⟨rfl, h', tk, rfl, R⟩
      · cases r₂ with
        | error e => exact hr₂
        | ok fl₂ =>
          cases fl₂ with
          | ret r =>
            obtain ⟨rfl, h', tk, rfl, R⟩ := hr₂
            repeat (any_goals (first | assumption | wp_step))
            exact h _ _ R
          | _ => exact hr₂.elim
    | _ => exact hr.elim
theorem endF {F0 : Heap → Prop} {o : Obj} {s' : Shared} {Q' : Unit → Shared → Prop} (hm : Moved [s.heap.objs.size, (nset w s).objs.size] (fun a b => b = a) { s with heap := (nset w s).push o } s') (R : F0 s'.heap)
    (q : ∀ h' tk, F0 h' → Q' () { s with heap := h', toks := tk }) : Q' () s' := by
  obtain ⟨h', g', d', tk', os'⟩ := s'
  have eg : g' = s.gens := hm.gens
  have ed : d' = s.drawn := hm.drawn
  have eo : os' = s.os := hm.os
  subst eg; subst ed; subst eo
  exact q h' tk' R
theorem none_at {h : Heap} {c : Addr} (le : h.objs.size ≤ c) : h.get? c = none := by
  cases z : h.get? c with
  | none => rfl
  | some o => exact absurd (Heap.lt_size z) (Nat.not_lt.mpr le)
theorem at_keys {items : Array Value} {ks : List (Addr × List Key)} (hi : items.toList = ks.map fun p => Value.ref p.1) {i : Nat} {v : Value} (h : items[i]? = some v) : ∃ q, ks[i]? = some q ∧ v = .ref q.1 := by
  rw [← Array.getElem?_toList, hi, List.getElem?_map] at h
  obtain ⟨q, h1, h2⟩ := Option.map_eq_some_iff.mp h
  exact ⟨q, h1, h2.symm⟩
set_option maxHeartbeats 3200000 in
theorem updT_list {l : Addr} {items : Array Value} {ks : List (Addr × List Key)} (hh : A.handled = none) (hu : A.units + 8 < cLine) (hl : s.heap.IsList l items) (hi : items.toList = ks.map fun p => Value.ref p.1) (each : ∀ q ∈ ks, TKy P w s.heap q.2 q.1) (few : ks.length < 64) :
    UpdF P w A s (.ref l) (Hold P w s.heap s.heap.objs.size ks ks.length) := fun A' E' Q' ha hw q => by
  have hA : A'.handled = none := ha.trans hh
  obtain ⟨ol, hol, hcl, nl, hdl⟩ := hl
  obtain ⟨ocls, odict, odata, oslots⟩ := ol
  simp only at hcl hdl
  subst hcl; subst hdl
  have d1 : (nset w s).get? l = some { cls := .type "list", dict := odict, data := .seq items nl, slots := oslots } := Heap.get?_push_of_some _ hol
  have d2 := F.sub_list_set
  have d3 := F.sub_list_frozenset
  have d4 : (Value.type "list" == Value.type "dict") = false := by decide
  have d5 : (nset w s).IsList l items := ⟨_, d1, rfl, nl, rfl⟩
  unfold Builtin.Frozenset.updateFrom
  generalize hPI : pyIter = PI
  wp_walk
  subst hPI
  have lt : l < s.heap.objs.size := Heap.lt_size hol
  have ne : l ≠ (nset w s).objs.size := by rw [nset_size]; exact Nat.ne_of_lt (Nat.lt_succ_of_lt lt)
  have sz : items.size = ks.length := by rw [← Array.length_toList, hi, List.length_map]
  refine wpAny_pyIter_list d5 (wpAny_bind (wpAny_runValue (loopT (h0 := s.heap) (ks := ks) ((Walks.list (by simp [hA]) _ l ne items).toS) ?_ sz few ?_ (fun i v hv => at_keys hi hv) each (none_at (Nat.le_refl _)) (fun c hc => none_at ?_) (items.size - 0) 0 _ (by omega) (Nat.zero_le _)
    ⟨⟨_, Heap.get?_push_size _ rfl, rfl, rfl⟩, d5.push _⟩ (hold_new (fun c o z => Heap.get?_push_of_some _ (Heap.get?_push_of_some _ z)) nset_get) fun s' hm R => ?_)))
  · simp only [List.mem_cons, List.mem_singleton, List.not_mem_nil, or_false, not_or, nset_size]
    exact ⟨Nat.ne_of_lt (Nat.lt_succ_self _), Nat.ne_of_gt lt⟩
  · first | (show A'.units + 1 + 1 < cLine; omega) | (show A'.units + 1 < cLine; omega) | (show A'.units < cLine; omega) | (show A'.units + 1 + 1 + 1 < cLine; omega)
  · rw [List.mem_singleton.mp hc, nset_size]
    omega
  · rw [sz] at R
    exact wpAny_pure (endF (F0 := Hold P w s.heap s.heap.objs.size ks ks.length) hm R q)
theorem Lies.fitH {h : Heap} (R : Lies P w h b m rows e t) : t.fits rows.size = true := fit_of ((R.good.sz.trans (List.length_map _)).trans (eqs_len R.eqs).symm) R.good.dm (by have := eqs_len R.eqs; have := R.air; omega)
end
section
variable {X : Cx} {pins : List (Addr × Obj)} {σ : L2.St} {H : Hp} {s : Shared} {a : Expr} {ta : TE} {p p2 q pos : Pos}
theorem items_vals {P : Program} {w : World} : ∀ {k : List Key} {us : List Value}, Vals (k.map kV) us → ItemsAre (mixKind P w) k us
  | [], _, .nil => .nil
  | _ :: _, _, .cons r t => .cons (kV_is r) (items_vals t)
theorem refsK : ∀ {ks : List (Addr × List Key)} {us : List Value}, Vals (ks.map fun p => V.ref p.1) us → us = ks.map fun p => Value.ref p.1
  | [], _, .nil => rfl
  | _ :: _, _, .cons r t => by
    cases r
    rw [refsK t]
    rfl
theorem tky_of (I : Inv X pins σ H s) {l : Addr} {k : List Key} (h : SqT X.K H l (k.map kV)) : TKy X.prog X.w s.heap k l := by
  obtain ⟨its, rv, ⟨o, e1, e2, n, e3⟩, _⟩ := I.tuple h
  exact ⟨o, its.toArray, n, e1, e2, e3, by simpa using items_vals rv⟩
end
end PuT
namespace Pu
open PySem PySem.Spec PyProof.Rows L2 PuS PuT
def tK (k : List Key) : PyData := .tuple (k.map kD)
def pLenSet2 : P1 := fun x P => (∃ ks, KeysD x ks ∧ ks.length + 1 < scanBound ∧ P (.int (dist ks).length)) ∨ ∃ ns : List (List Key), (x = .list (ns.map tK) ∨ x = .tuple (ns.map tK)) ∧ ns.length < 64 ∧ P (.int (dist ns).length)
end Pu
namespace Pu
open PySem PySem.Spec PyProof.Rows L2
def pRepr2 : P1 := fun d P => d.showable = true ∧ d.depth ≤ 40 ∧ d.shown.length ≤ sizeLine ∧ P (.str d.shown)
section
variable {X : Cx} {e : Expr} {te : WE} {p pos : Pos}
theorem e_repr2 (N : NoSys X) (hu : X.A.units + 64 < cLine) (hg : Gl X "repr") (hm : X.mg "repr" = none) (ha : EE X e te) (na : starEach [e] X.env = (false, eval e X.env) :: starEach [] X.env := by rfl) : EE X (.Call (.Name "repr" p) [e] [] pos) (w1 pRepr2 te) := by
  refine ⟨fun pins s σ H Q I h => ?_⟩
  refine Call_ (ld_blt I hg hm boot_repr ?_)
  obtain ⟨pn, F, env, b, P, rep, t, k⟩ := h
  refine PyProof.Rows.callWith_builtin1 (PyProof.Rows.args_cons (thn (ha.run pins s σ H (fun v H1 => ∃ d F1 b1, Ok pn b1 F1 H1 ∧ Ext pn F H F1 H1 ∧ RV X.K F1 v d ∧ pRepr2 d fun z => P z b1) I ⟨pn, F, env, b, _, rep, t, fun v d F1 H1 b1 o1 e1 rv q => ⟨d, F1, b1, o1, e1, rv, q⟩⟩) fun v s1 ⟨x, H1, I1, r1, q1⟩ => PyProof.Rows.args_nil ?_) na) na rfl
  obtain ⟨d, F1, b1, o1, e1, rv, sh, dp, ln, q⟩ := q1
  have last : ∀ (u : Tok) (tk : Nat), EP X pins σ Q (.str d.shown u) { s1 with toks := tk } := fun u tk => ⟨.str d.shown, H1, I1.tok tk, ⟨_, rfl⟩, k _ _ F1 H1 b1 o1 e1 (.str _) q⟩
  have four : (∃ a, v = .ref a) ∨ (v = .none ∧ d = .none) ∨ (∃ b, v = .bool b ∧ d = .bool b) ∨ (∃ i t, v = .int i t ∧ d = .int i) ∨ ∃ z t, v = .str z t ∧ d = .str z := by
    cases rv with
    | lst _ _ => exact .inl ⟨_, r1⟩
    | tup _ _ => exact .inl ⟨_, r1⟩
    | dct _ _ => exact .inl ⟨_, r1⟩
    | non => exact .inr (.inl ⟨r1, rfl⟩)
    | bl b => exact .inr (.inr (.inl ⟨b, r1, rfl⟩))
    | int i =>
      obtain ⟨t, e⟩ := r1
      exact .inr (.inr (.inr (.inl ⟨i, t, e, rfl⟩)))
    | str z =>
      obtain ⟨t, e⟩ := r1
      exact .inr (.inr (.inr (.inr ⟨z, t, e, rfl⟩)))
  rcases four with ⟨a, rfl⟩ | ⟨rfl, rfl⟩ | ⟨b, rfl, rfl⟩ | ⟨i, t, rfl, rfl⟩ | ⟨z, t, rfl, rfl⟩
  · obtain ⟨as, ra, hn⟩ := reads_of I1 o1.sub rv r1
    exact repr_of_reads' ra sh (fun _ => hn (N.now I1)) N.gd (by omega) (fun _ _ e => e) (fun h' u tk hk => ⟨.str d.shown, H1, I1.kept hk, ⟨_, rfl⟩, k _ _ F1 H1 b1 o1 e1 (.str _) q⟩) ln
  · exact PySem.P.repr_of_none (last _ _)
  · exact PySem.P.repr_of_bool (last _ _)
  · exact PySem.P.repr_of_int (of_decide_eq_true sh) (last _ _)
  · exact PySem.P.repr_of_str (last _ _) ln
end
theorem m_repr2 {ta : WE} {env : En} {n : Nat} {Q : PyData → Nat → Prop} {B D : Nat} (hB : B ≤ 100000) (hD : D ≤ 40) (h : ME ta env n fun x m => Fit B D x ∧ Q (.str x.shown) m) : ME (w1 pRepr2 ta) env n Q :=
  fun b P hb k => h b _ hb fun x m b1 ⟨hf, q⟩ hb1 => ⟨hf.shw, Nat.le_trans hf.deep hD, hf.shown hB, k _ m b1 q hb1⟩
end Pu
namespace Pu
open PySem PySem.Spec PyProof.Rows L2
def sNever : WS := fun _ _ _ => False
theorem s_never {X : Cx} {st : Stmt} : SS X st sNever := ⟨fun pins s σ H D I h => by
  obtain ⟨pn, F0, H0, F, env, b, PD, rep, t, kk, r⟩ := h
  exact t.elim⟩
end Pu
namespace Pu
open PySem PySem.Spec PyProof.Rows L2 PuS
end Pu
namespace Pu
open PySem PySem.Spec PyProof.Rows L2 PuS
section
variable {P : Program} {w : World} {A : Around} {E : Value → Shared → Prop} {s : Shared}
theorem sortedD {x : Value} {ds : List PyData} {R0 : Value → PyData → Prop} {Q : Value → Shared → Prop} (hr : ∀ v d, R0 v d → ∃ as, Reads s.heap v d as) (hal : W.AllAlike ds) (hk : W.Sortable ds) (hL : ds.length ≤ sizeLine) (hu : ∀ d ∈ ds, A.units + 4 + d.depth < cLine)
    (hc : ∀ (R : List Value → Shared → Prop), (∀ (s1 : Shared) (vs : List Value), (∀ b o, s.heap.get? b = some o → s1.heap.get? b = some o) → s1.gens = s.gens → s1.os = s.os → W.EachIs R0 vs ds → R vs s1) → wpAny (model P w) A.in1 (collect x) R E s)
    (ha : argsOk "sorted" ⟨[x], []⟩)
    (hQ : ∀ (s1 s' : Shared) (p : Addr) (out : Array Value) (c : Nat), (∀ b o, s.heap.get? b = some o → s1.heap.get? b = some o) → s1.gens = s.gens → s1.os = s.os → (∀ b o, s1.heap.get? b = some o → s'.heap.get? b = some o) → s'.gens = s1.gens → s'.os = s1.os → s1.heap.objs.size ≤ p → s'.heap.get? p = some (seqObj "list" out c) → W.EachIs R0 out.toList (ds.mergeSort (W.dataLe false id)) → Q (.ref p) s') :
    wpAny (model P w) A (call (.builtin "sorted") [x]) Q E s := by
  refine Calls.call_function_entry kind_sorted plain_sorted entry_sorted ha ?_
  unfold Builtin.«sorted»
  refine wpAny_bind (m := checkCount "sorted" 1 1 _) (wpAny_pure ?_)
  refine wpAny_bind (hc _ fun s1 vs k1 g1 o1 each => ?_)
  have lv : vs.length = ds.length := each.length
  refine wpAny_bind (wpAny_newList ?_ (by rw [lv]; exact hL))
  have hoL : (s1.heap.push (seqObj "list" vs.toArray 0)).get? s1.heap.objs.size = some (seqObj "list" vs.toArray 0) := Heap.get?_push_size _ rfl
  have up : ∀ b o, s.heap.get? b = some o → (W.sortingHeap (s1.heap.push (seqObj "list" vs.toArray 0)) s1.heap.objs.size vs).get? b = some o := fun b o e => by
    have e1 := k1 b o e
    exact W.sortingHeap_old (Nat.ne_of_lt (Heap.lt_size e1)) (Heap.get?_push_of_some _ e1)
  have er : W.EachIs (fun v d => ∃ as, Reads (W.sortingHeap (s1.heap.push (seqObj "list" vs.toArray 0)) s1.heap.objs.size vs) v (id d) as) vs ds := each.mono fun v d h => let ⟨as, r⟩ := hr v d h; ⟨as, PyProof.Rows.Reads.keeps up r⟩
  have hal2 : W.AllAlike (ds.map id) := by rw [List.map_id]; exact hal
  have hk2 : W.Sortable (ds.map id) := by rw [List.map_id]; exact hk
  refine wpAny_bind (wpAny_holding (wpAny_call_entry slot_list_sort ⟨_, hoL, rfl⟩ entry_list_sort (W.list_sort_vals (κ := W.dataKind (W.sortingHeap (s1.heap.push (seqObj "list" vs.toArray 0)) s1.heap.objs.size vs) (ds.map id)) hoL
    (W.SortsAt.data (s := { s1 with heap := W.sortingHeap (s1.heap.push (seqObj "list" vs.toArray 0)) s1.heap.objs.size vs }) (W.each_map (R := fun v d => ∃ as, Reads (W.sortingHeap (s1.heap.push (seqObj "list" vs.toArray 0)) s1.heap.objs.size vs) v d as) id er) hal2 hk2 (W.bound_map fun d hd => ?_)) (by rw [lv]; exact hL) ⟨_, rfl, ?_⟩) (args_list_sort _)))
  · have := hu d hd
    show A.units + 1 + 1 + d.depth < cLine
    omega
  · have so := W.sortVals_data false each er hal2
    generalize W.sortVals _ false vs vs = out at so ⊢
    obtain ⟨c, hcc⟩ := sortedHeap_at (vs := vs) (out := out.toArray) hoL
    refine wpAny_pure ⟨_, rfl, hQ s1 _ s1.heap.objs.size out.toArray c k1 g1 o1 (fun b u q => ?_) rfl rfl (Nat.le_refl _) hcc (by simpa using so)⟩
    have hlt := Heap.lt_size q
    show (sortedHeap (s1.heap.push (seqObj "list" vs.toArray 0)) s1.heap.objs.size vs out.toArray).get? b = some u
    rw [sortedHeap_old (Nat.ne_of_lt hlt) (by rw [size_push']; exact Nat.lt_succ_of_lt hlt)]
    exact Heap.get?_push_of_some _ q
end
/-- what a sorted thing holds -/
def itemsOf : PyData → Option (List PyData)
  | .list ds => some ds
  | .tuple ds => some ds
  | .str z => some (chS z)
  | _ => none
/-- ds in ascending order, equal ones as they stood -/
def srt (ds : List PyData) : List PyData := ds.mergeSort (W.dataLe false id)
def pSort : PyData → (List PyData → Prop) → Prop := fun x P => ∃ ds, itemsOf x = some ds ∧ W.AllAlike ds ∧ W.Sortable ds ∧ ds.length ≤ 100000 ∧ (∀ d ∈ ds, d.depth ≤ 40) ∧ P (srt ds)
section
variable {X : Cx} {pins : List (Addr × Obj)} {σ : L2.St} {F H : Hp} {s : Shared}
/-- a value that stands for a datum -/
def Stands (K : PySem.W.Frag) (F : Hp) (u : Value) (d : PyData) : Prop := ∃ v, RelV v u ∧ RV K F v d
theorem stands_of {K : PySem.W.Frag} : ∀ {vs : List V} {us : List Value} {ds : List PyData}, Vals vs us → RVs K F vs ds → W.EachIs (Stands K F) us ds
  | _, _, _, .nil, .nil => .nil
  | _, _, _, .cons r t, .cons q u => .cons ⟨_, r, q⟩ (stands_of t u)
theorem of_stands {K : PySem.W.Frag} : ∀ {us : List Value} {ds : List PyData}, W.EachIs (Stands K F) us ds → ∃ vs, Vals vs us ∧ RVs K F vs ds
  | _, _, .nil => ⟨[], .nil, .nil⟩
  | _, _, .cons ⟨v, r, q⟩ t => let ⟨vs, h1, h2⟩ := of_stands t; ⟨v :: vs, .cons r h1, .cons q h2⟩
theorem each_at {α β : Type} {R : α → β → Prop} : ∀ {us : List α} {ds : List β}, us.length = ds.length → (∀ (i : Nat) (u : α) (d : β), us[i]? = some u → ds[i]? = some d → R u d) → W.EachIs R us ds
  | [], [], _, _ => .nil
  | [], _ :: _, h, _ => nomatch h
  | _ :: _, [], h, _ => nomatch h
  | u :: us, d :: ds, h, k => .cons (k 0 u d rfl rfl) (each_at (Nat.succ.inj h) fun i x y e1 e2 => k (i + 1) x y (by simpa using e1) (by simpa using e2))
theorem stands_signs {K : PySem.W.Frag} {x : Str} {acc : Array Value} (h : ItemsOf (SignAt x) acc x.cps.size) : W.EachIs (Stands K F) acc.toList (chS x) := by
  refine each_at (by rw [Array.length_toList, h.1]; simp [chS]) fun i u d e1 e2 => ?_
  rw [Array.getElem?_toList] at e1
  obtain ⟨c, t, ec, rfl⟩ := h.2 i u e1
  simp only [chS, List.getElem?_map, Array.getElem?_toList, ec, Option.map_some, Option.some.injEq] at e2
  subst e2
  exact ⟨.str ⟨#[c]⟩, ⟨t, rfl⟩, .str _⟩
theorem boot_sorted2 : bootBuiltins "sorted" = some (.builtin "sorted") := by decide +kernel
theorem f_sortD {a : Expr} {ta : WE} {p pos : Pos} (hu : X.A.units + 64 < cLine) (hc : X.calm = true) (hg : Gl X "sorted") (hm : X.mg "sorted" = none) (ha : EB X a ta) (na : starEach [a] X.env = (false, eval a X.env) :: starEach [] X.env := by rfl) :
    EF X (.Call (.Name "sorted" p) [a] [] pos) (w1L pSort ta) := by
  refine ⟨fun pins s σ H Q I h => ?_⟩
  obtain ⟨pn, F, env, b, P, rep, t, k⟩ := h
  refine Call_ (ld_blt I hg hm boot_sorted2 ?_)
  refine PyProof.Rows.callWith_builtin1 (PyProof.Rows.args_cons (thn (ha.run pins s σ H (fun v H1 => ∃ d F1 b1, Ok pn b1 F1 H1 ∧ Ext pn F H F1 H1 ∧ BV X.K pn F1 H1 v d ∧ pSort d fun z => P z b1) I ⟨pn, F, env, b, _, rep, t, fun v d F1 H1 b1 o1 e1 rv q => ⟨d, F1, b1, o1, e1, rv, q⟩⟩) fun v s1 ⟨x, H1, I1, r1, q1⟩ => PyProof.Rows.args_nil ?_) na) na rfl
  obtain ⟨d, F1, b1, o1, e1, bv, ds, ei, al, so, ln, dp, q⟩ := q1
  have lz : ds.length ≤ sizeLine := by rw [sizeLine_eq]; omega
  refine sortedD (ds := ds) (R0 := Stands X.K F1) (fun u y ⟨w, rw_, rd⟩ => let ⟨as, ra, _⟩ := reads_of I1 o1.sub rd rw_; ⟨as, ra⟩) al so lz (fun y hy => by have := dp y hy; omega) (fun R hR => ?_) (args_sorted1 _) fun s2 s3 p out c k1 g1 z1 k2 g2 z2 hp ha2 ho => ?_
  · cases d with
    | list xs =>
      cases ei
      obtain ⟨l, vs, rfl, hl, rvs⟩ := bv.list o1
      cases r1
      obtain ⟨its, rv, pl, hz⟩ := I1.list (SqL.of hl)
      obtain ⟨o, e1, e2, n, e3⟩ := pl.isList
      exact wpAny_collect_seq l (.inl rfl) e1 e2 e3 (fun h' hk => hR _ _ (fun b u e => hk b u e) rfl rfl (by simpa using stands_of rv rvs)) (by rw [List.size_toArray, ← rv.length, rvs.len]; exact lz)
    | tuple xs =>
      cases ei
      obtain ⟨l, vs, rfl, hl, rvs⟩ := bv.tup o1
      cases r1
      obtain ⟨its, rv, ⟨o, e1, e2, n, e3⟩, hz⟩ := I1.tuple hl
      exact wpAny_collect_seq l (.inr rfl) e1 e2 e3 (fun h' hk => hR _ _ (fun b u e => hk b u e) rfl rfl (by simpa using stands_of rv rvs)) (by rw [List.size_toArray, ← rv.length, rvs.len]; exact lz)
    | str z =>
      cases ei
      have ev := bv.str
      subst ev
      obtain ⟨tk, rfl⟩ := r1
      refine wpAny_collect_str (by have := I1.ok.hd hc; simpa using this) z tk (fun s' acc kk g _ os it => hR _ _ kk g os (stands_signs it)) (by simpa [chS] using lz)
    | _ => cases ei
  · obtain ⟨ws, hv, hr⟩ := of_stands ho
    have hok2 : HOk X.prog X.w H1 s2.heap := I1.hok.kept k1
    have hn : H1 p = none := hok2.fresh hp
    have lw : ws.length ≤ sizeLine := by
      rw [hr.len]
      show (ds.mergeSort _).length ≤ sizeLine
      rw [List.length_mergeSort]
      exact lz
    have J : Inv X pins σ (upd H1 p (.lst ws)) s3 := I1.call' (ch := []) (z2.trans z1) (Un.trans (Un.kept k1) (Un.laid k2 hp hn)) (hok2.laid k2 hp ⟨lw, out.toList, c, hv, ha2⟩) (by rw [g2, g1]; exact I1.bare) (fun _ z => nomatch z)
    have g : GoL X.K pn b1 F1 H1 (fun d => P d b1) Q := fun w z F' H' o3 e3 rv nw pz => k w z F' H' b1 o3 (e1.trans e3) rv (fun a e => e1.back rep.ok o1 (nw a e)) pz
    exact ⟨.ref p, _, J, rfl, g.lst o1 hr q p hn⟩
end
end Pu
namespace Pu
open PySem PySem.Spec PyProof.Rows L2 PuS
end Pu
namespace Pu
open PySem PySem.Spec PyProof.Rows L2 PuS
/-- what stands at a key -/
def lookS (xs : List (Str × PyData)) (s : Str) : Option PyData := (xs.find? fun p => decide (p.1 = s)).map (·.2)
def putS (xs : List (Str × PyData)) (s : Str) (d : PyData) : List (Str × PyData) := if (xs.any fun p => decide (p.1 = s)) = true then xs.map fun p => if p.1 = s then (p.1, d) else p else xs ++ [(s, d)]
def pairS (p : Str × PyData) : PyData := .tuple [.str p.1, p.2]
section
variable {K : PySem.W.Frag} {pn : Pn} {F H F0 H0 : Hp} {b : Nat} {env : En} {σ : L2.St}
theorem KVs.len : ∀ {vs : List (Key × V)} {xs : List (Str × PyData)}, KVs K F vs xs → vs.length = xs.length
  | _, _, .nil => rfl
  | _, _, .cons _ t => congrArg (· + 1) t.len
theorem KVs.any (s : Str) : ∀ {vs : List (Key × V)} {xs : List (Str × PyData)}, KVs K F vs xs → (vs.any fun kv => decide (kv.1 = .inr s)) = xs.any fun p => decide (p.1 = s)
  | _, _, .nil => rfl
  | _, _, .cons (x := x) r t => by
    rw [List.any_cons, List.any_cons, t.any s]
    congr 1
    exact decide_eq_decide.mpr ⟨fun z => Sum.inr.inj z, fun z => by rw [show x = s from z]⟩
theorem KVs.mapS {s : Str} {v : V} {d : PyData} (r : RV K F v d) : ∀ {vs : List (Key × V)} {xs : List (Str × PyData)}, KVs K F vs xs → KVs K F (vs.map fun kv => if kv.1 = .inr s then (kv.1, v) else kv) (xs.map fun p => if p.1 = s then (p.1, d) else p)
  | _, _, .nil => .nil
  | _, _, .cons (x := x) q t => by
    rw [List.map_cons, List.map_cons]
    by_cases e : x = s
    · subst e
      rw [if_pos rfl, if_pos rfl]
      exact .cons r (t.mapS r)
    · rw [if_neg (fun z => e (Sum.inr.inj z)), if_neg e]
      exact .cons q (t.mapS r)
theorem KVs.app {vs' : List (Key × V)} {xs' : List (Str × PyData)} (q : KVs K F vs' xs') : ∀ {vs : List (Key × V)} {xs : List (Str × PyData)}, KVs K F vs xs → KVs K F (vs ++ vs') (xs ++ xs')
  | _, _, .nil => q
  | _, _, .cons r t => .cons r (KVs.app q t)
theorem KVs.put {s : Str} {v : V} {d : PyData} (r : RV K F v d) {vs : List (Key × V)} {xs : List (Str × PyData)} (h : KVs K F vs xs) : KVs K F (putK vs (.inr s) v) (putS xs s d) := by
  unfold putK putS
  rw [h.any s]
  split
  · exact h.mapS r
  · exact KVs.app (.cons r .nil) h
/-- other dicts are forgotten when one is written -/
def noK : Option Sl → Option Sl
  | some (.k _) => none
  | s => s
end
end Pu
namespace Pu
open PySem PySem.Spec PyProof.Rows L2 PuS
section
variable {K : PySem.W.Frag} {pn : Pn} {F H F0 H0 : Hp} {b : Nat} {env : En} {σ : L2.St}
theorem KVs.fsts : ∀ {vs : List (Key × V)} {xs : List (Str × PyData)}, KVs K F vs xs → vs.map (·.1) = xs.map fun p => Sum.inr p.1
  | _, _, .nil => rfl
  | _, _, .cons _ t => by rw [List.map_cons, List.map_cons, t.fsts]
theorem Ok.apartN (o : Ok pn b F H) {p : Addr} (hp : H p = none) : NotPen pn p ∧ NotCa pn p := o.pen.apartN hp
end
/-- dict(x), x a tuple of pairs -/
def dictOf (d : PyData) (kvs : List (Str × PyData)) : Prop := d = .tuple (kvs.map pairS) ∧ (kvs.map (·.1)).Nodup ∧ kvs.length ≤ 100000
def sDictK (t : WE) (i : Nat) : WS := fun PD env b => t env b fun d b' => ∃ kvs, dictOf d kvs ∧ PD.nx (env.set i (some (.k kvs))) b'
section
variable {X : Cx} {e : Expr} {te : WE} {p pos : Pos}
variable {i : Nat} {x : Str} {cpos spos pos' : Pos}
/-- x in d -/
def wKIn (te : WE) (i : Nat) (neg : Bool) : WE := fun env b P => te env b fun y b1 => match y, env[i]? with
  | .str s, some (some (.k kvs)) => P (.bool (neg ^^ (lookS kvs s).isSome)) b1
  | _, _ => False
/-- d[x] -/
def wKGet (te : WE) (i : Nat) : WE := fun env b P => match env[i]? with
  | some (some (.k kvs)) => te env b fun y b1 => match y with
    | .str s => (match lookS kvs s with | some d => P d b1 | none => False)
    | _ => False
  | _ => False
/-- d[x] = e -/
def sKSet (i : Nat) (tk te : WE) : WS := fun PD env b => match env[i]? with
  | some (some (.k xs)) => te env b fun d b1 => tk env b1 fun y b2 => match y with
    | .str s => xs.length < sizeLine ∧ PD.nx ((env.map noK).set i (some (.k (putS xs s d)))) b2
    | _ => False
  | _ => False
/-- list(d) -/
def wKList (i : Nat) : WF := fun env b P => match env[i]? with
  | some (some (.k xs)) => P (xs.map fun p => .str p.1) b
  | _ => False
/-- dict(x).get(c, z) -/
def wDGet (te tc tz : WE) : WE := fun env b P => te env b fun d b1 => ∃ kvs, dictOf d kvs ∧ tc env b1 fun y b2 => match y with
  | .str s => tz env b2 fun z b3 => P ((lookS kvs s).getD z) b3
  | _ => False
end
end Pu
namespace Pu
open PySem PySem.Spec PyProof.Rows L2 PuS
end Pu
namespace Pu
open PySem PySem.Spec PyProof.Rows L2 PuS
end Pu
namespace Pu
open PySem PySem.Spec PyProof.Rows L2 PuS
abbrev WDO := List Sl → Nat → (PyData → Nat → Prop) → (List PyData → Nat → Prop) → Prop
/-- return x, the list a name holds stays one's own -/
def sRetO (i : Nat) : WS := fun PD env b => match env[i]? with
  | some (some (.d x)) => PD.rt x b
  | some (some (.l xs)) => PD.rl xs b
  | _ => False
def wDefO (np nn : Nat) (t : WS) : WDO := fun ss b P L => ss.length = np ∧ t { nx := fun _ b' => P .none b', rt := P, rl := L } (env0 nn ss) b
/-- .. and settled at once -/
def fzO (f : WDO) : WD := fun ss b P => f ss b P fun ds b' => P (.list ds) b'
def spO (K : PySem.W.Frag) (f : WDO) : Sp := fun vs H Q _ => ∃ pn F ss b P L, Ok pn b F H ∧ ArgsAre K pn F H vs ss ∧ f ss b P L ∧
  (∀ v d F' H' b', Ok pn b' F' H' → Ext pn F H F' H' → RV K F' v d → P d b' → Q v H') ∧
  (∀ v ds F' H' b', Ok pn b' F' H' → Ext pn F H F' H' → OwnL K pn F' H' v ds → (∀ a, v = .ref a → H a = none) → L ds b' → Q v H')
section
variable {P : Program} {w : World} {K : PySem.W.Frag} {mg : Str → Option Value} {base : Heap}
theorem spO.fz {f : Addr} {fd : FuncData} {ps : List Str} {k : Nat} {t : WDO} (G : FnOk P w K mg base CX0 k f fd ps (spO K t)) : FnOk P w K mg base CX0 k f fd ps (spW K (fzO t)) :=
  G.imp fun vs H Q E ⟨pn, F, ss, b, PP, o, ar, q, kk⟩ => ⟨pn, F, ss, b, PP, _, o, ar, q, kk, fun v ds F' H' b' o' x ow nw q => by
    obtain ⟨a, us, rfl, f, n, nc, ha, rv⟩ := ow
    refine kk (.ref a) (.list ds) (upd F' a (.lst us)) H' b' (o'.settle ha f n nc) ⟨x.fsub.trans (same_new f), fun c u hc fc ncp => ?_⟩ (.lst upd_same (rv.mono (same_new f))) q
    obtain ⟨h1, f1⟩ := x.keep c u hc fc ncp
    exact ⟨h1, by rw [upd_ne (fun z => by rw [z, nw a rfl] at hc; cases hc)]; exact f1⟩⟩
end
def MDO (f : WDO) (ss : List Sl) (n : Nat) (R : PyData → Nat → Prop) (L : List PyData → Nat → Prop) : Prop :=
  ∀ (b : Nat) (P : PyData → Nat → Prop) (PL : List PyData → Nat → Prop), n ≤ b → (∀ r m b', R r m → m ≤ b' → P r b') → (∀ r m b', L r m → m ≤ b' → PL r b') → f ss b P PL
def MSO (t : WS) (env : En) (n : Nat) (N : En → Nat → Prop) (R : PyData → Nat → Prop) (L : List PyData → Nat → Prop) (B C : En → Nat → Prop) : Prop :=
  ∀ (PD : PEnds) (b : Nat), n ≤ b → (∀ e m b', N e m → m ≤ b' → PD.nx e b') → (∀ r m b', R r m → m ≤ b' → PD.rt r b') → (∀ r m b', L r m → m ≤ b' → PD.rl r b') →
    (∀ e m b', B e m → m ≤ b' → PD.bk e b') → (∀ e m b', C e m → m ≤ b' → PD.ct e b') → t PD env b
section
variable {t u tb : WS} {ta tc : WE} {tt : WT} {tf : WF} {ti : WI} {env : En} {n i j : Nat} {g : Tg} {N : En → Nat → Prop} {R : PyData → Nat → Prop} {L : List PyData → Nat → Prop} {B C : En → Nat → Prop}
theorem o_seq (h : MS t env n (fun e m => MSO u e m N R L B C) R B C) : MSO (sSeq t u) env n N R L B C :=
  fun PD b hb kn kr kl kb kc => h _ b hb (fun e m b' q hm => q PD b' hm kn kr kl kb kc) kr kb kc
theorem o_retO {xs : List PyData} (hx : env[i]? = some (some (.l xs))) (q : L xs n) : MSO (sRetO i) env n N R L B C :=
  fun PD b hb kn kr kl kb kc => by unfold sRetO; rw [hx]; exact kl _ n b q hb
theorem mdo_def {np nn : Nat} {t : WS} {ss : List Sl} {n : Nat} {Q : PyData → Nat → Prop} {L : List PyData → Nat → Prop} {env : En} (hl : ss.length = np) (he : env0 nn ss = env) (h : MSO t env n (fun _ m => Q .none m) Q L noEnd noEnd) : MDO (wDefO np nn t) ss n Q L :=
  fun b P PL hb k kl => ⟨hl, by subst he; exact h _ b hb (fun e m b' q hm => k _ m b' q hm) k kl (fun _ _ _ q => q.elim) (fun _ _ _ q => q.elim)⟩
theorem MDO.imp {f : WDO} {ss : List Sl} {n : Nat} {Q Q' : PyData → Nat → Prop} {L L' : List PyData → Nat → Prop} (h : MDO f ss n Q L) (i : ∀ r m, Q r m → Q' r m) (j : ∀ r m, L r m → L' r m) : MDO f ss n Q' L' :=
  fun b P PL hb k kl => h b P PL hb (fun r m b' q hm => k r m b' (i r m q) hm) fun r m b' q hm => kl r m b' (j r m q) hm
theorem n_dictK (h : ME ta env n fun d m => ∃ kvs, dictOf d kvs ∧ N (env.set i (some (.k kvs))) m) : MS (sDictK ta i) env n N R B C :=
  fun PD b hb kn kr kb kc => h b _ hb fun d m b1 ⟨kvs, hd, q⟩ hb1 => ⟨kvs, hd, kn _ m b1 q hb1⟩
theorem m_kin {kvs : List (Str × PyData)} {Q : PyData → Nat → Prop} {neg : Bool} (hx : env[i]? = some (some (.k kvs))) (h : ME ta env n fun d m => ∃ s, d = .str s ∧ Q (.bool (neg ^^ (lookS kvs s).isSome)) m) : ME (wKIn ta i neg) env n Q :=
  fun b P hb k => h b _ hb fun d m b1 ⟨s, e, q⟩ hb1 => by
    subst e
    rw [hx]
    exact k _ m b1 q hb1
theorem m_kget {kvs : List (Str × PyData)} {Q : PyData → Nat → Prop} (hx : env[i]? = some (some (.k kvs))) (h : ME ta env n fun d m => ∃ s z, d = .str s ∧ lookS kvs s = some z ∧ Q z m) : ME (wKGet ta i) env n Q :=
  fun b P hb k => by
    unfold wKGet
    rw [hx]
    refine h b _ hb fun d m b1 ⟨s, z, e, e2, q⟩ hb1 => ?_
    subst e
    show (match lookS kvs s with | some d => P d b1 | none => False)
    rw [e2]
    exact k _ m b1 q hb1
theorem n_kset {kvs : List (Str × PyData)} (hx : env[i]? = some (some (.k kvs))) (h : ME tc env n fun d m => ME ta env m fun y m' => ∃ s, y = .str s ∧ kvs.length < sizeLine ∧ N ((env.map noK).set i (some (.k (putS kvs s d)))) m') : MS (sKSet i ta tc) env n N R B C :=
  fun PD b hb kn kr kb kc => by
    unfold sKSet
    rw [hx]
    refine h b _ hb fun d m b1 hd hb1 => hd b1 _ hb1 fun y m' b2 ⟨s, e, l, q⟩ hb2 => ?_
    subst e
    exact ⟨l, kn _ m' b2 q hb2⟩
theorem m_klist {kvs : List (Str × PyData)} {QL : List PyData → Nat → Prop} (hx : env[i]? = some (some (.k kvs))) (q : QL (kvs.map fun p => .str p.1) n) : ME (wKList i) env n QL := fun b P hb k => by
  unfold wKList
  rw [hx]
  exact k _ n b q hb
theorem m_dget2 {te tz : WE} {Q : PyData → Nat → Prop} (h : ME te env n fun d m => ∃ kvs, dictOf d kvs ∧ ME ta env m fun y m1 => ∃ s, y = .str s ∧ ME tz env m1 fun z m2 => Q ((lookS kvs s).getD z) m2) : ME (wDGet te ta tz) env n Q :=
  fun b P hb k => h b _ hb fun d m b1 ⟨kvs, hd, h2⟩ hb1 => ⟨kvs, hd, h2 b1 _ hb1 fun y m1 b2 ⟨s, e, h3⟩ hb2 => by subst e; exact h3 b2 _ hb2 fun z m2 b3 q hb3 => k _ m2 b3 q hb3⟩
/-- sorted(x) -/
theorem m_sort {QL : List PyData → Nat → Prop} (h : ME ta env n fun d m => ∃ ds, itemsOf d = some ds ∧ W.AllAlike ds ∧ W.Sortable ds ∧ ds.length ≤ 100000 ∧ (∀ d ∈ ds, d.depth ≤ 40) ∧ QL (srt ds) m) : ME (w1L pSort ta) env n QL :=
  fun b P hb k => h b _ hb fun d m b1 ⟨ds, h1, h2, h3, h4, h5, q⟩ hb1 => ⟨ds, h1, h2, h3, h4, h5, k _ m b1 q hb1⟩
end
end Pu
namespace Pu
open PySem PySem.Spec PyProof.Rows L2 PuS
def pMulV : P2
  | .str s, .int n, P => -(2 ^ 63) ≤ n ∧ n ≤ 1 ∧ P (.str (Txt.mul s n))
  | x, y, P => pMulT x y P
def eMulV : PyData → PyData → Option PyData
  | .str s, .int n => if -(2 ^ 63) ≤ n ∧ n ≤ 1 then some (.str (Txt.mul s n)) else none
  | x, y => eMulT x y
theorem h2_mulV : H2 pMulV eMulV := fun x y P r q k => by
  unfold eMulV at q
  unfold pMulV
  split at q
  · obtain ⟨c, e⟩ := ite_some q
    subst e
    exact ⟨c.1, c.2, k⟩
  · rename_i h
    split
    · rename_i s n
      exact absurd rfl (h s n rfl)
    · exact h2_mulT _ _ P r q k
end Pu
namespace Pu
open PySem PySem.Spec PyProof.Rows L2 SeqAt PuS
theorem h1_lenSet2 : H1 pLenSet2 eLenSet := fun x P r q k => by
  obtain ⟨ks, h1, q⟩ := bnd q
  obtain ⟨c, e⟩ := ite_some q
  subst e
  exact .inl ⟨ks, keysF_ok h1, c, k⟩
end Pu
namespace Pu
open PySem PySem.Spec PyProof.Rows L2 SeqAt PuS
abbrev CsT := List (Nat × Int)
def colsC (cs : CsT) : List Nat := cs.map (·.1)
def fixC (cs : CsT) (c : Nat) : Option Int := (cs.find? fun p => decide (p.1 = c)).map (·.2)
theorem fixC_none {cs : CsT} {c : Nat} : fixC cs c = none ↔ c ∉ colsC cs := by
  unfold fixC colsC
  rw [Option.map_eq_none_iff, List.find?_eq_none]
  constructor
  · intro h z
    obtain ⟨p, hp, e⟩ := List.mem_map.mp z
    exact h p hp (decide_eq_true e)
  · intro h p hp z
    exact h (List.mem_map.mpr ⟨p, hp, of_decide_eq_true z⟩)
def srtC (cs : CsT) : CsT := cs.mergeSort fun a b => decide (a.1 ≤ b.1)
theorem srtC_perm (cs : CsT) : (srtC cs).Perm cs := List.mergeSort_perm _ _
theorem srtC_asc {cs : CsT} (nd : (colsC cs).Nodup) : (colsC (srtC cs)).Pairwise (· < ·) := by
  have h := List.pairwise_mergeSort (le := fun a b : Nat × Int => decide (a.1 ≤ b.1)) (fun a b c h1 h2 => decide_eq_true (Nat.le_trans (of_decide_eq_true h1) (of_decide_eq_true h2))) (fun a b => by
    rcases Nat.le_total a.1 b.1 with z | z <;> simp [z]) cs
  have nd2 : (colsC (srtC cs)).Nodup := (((srtC_perm cs).map (·.1)).symm : (cs.map (·.1)).Perm ((srtC cs).map (·.1))).nodup nd
  have h2 : (colsC (srtC cs)).Pairwise (· ≤ ·) := by
    unfold colsC
    rw [List.pairwise_map]
    exact h.imp fun {a b} z => of_decide_eq_true z
  exact (h2.and nd2).imp fun {a b} z => Nat.lt_of_le_of_ne z.1 z.2
structure CsOk (K : List Nat) (cs : CsT) : Prop where
  asc : (colsC cs).Pairwise (· < ·)
  sub : ∀ c ∈ colsC cs, c ∈ K
inductive Stp where
  | whr (c : Nat) (v : Int)
  | srt (b : Bool) (p : List Nat)
  | cut (b : Bool) (n : Nat)
  | col (l : List Nat)
  | grp (w : Str) (r : List PyData)
def stpD : Stp → PyData
  | .whr c v => .tuple [.str "where", sg c, .int v]
  | .srt true p => .tuple [.str "stable", .str (tx p)]
  | .srt false p => .tuple [.str "sort", .str (tx p)]
  | .cut true n => .tuple [.str "first", .int (n : Nat)]
  | .cut false n => .tuple [.str "skip", .int (n : Nat)]
  | .col l => .tuple [.str "columns", .str (tx l)]
  | .grp w r => .tuple (.str w :: r)
def StpOk (K : List Nat) : Stp → Prop
  | .whr c _ => c ∈ K
  | .srt _ p => (∀ c ∈ p, c ∈ K) ∧ p.Nodup
  | .cut _ _ => True
  | .col l => l.Sublist K
  | .grp w _ => w = Str.ofString "count" ∨ w = Str.ofString "sum" ∨ w = Str.ofString "heads"
section
variable {K : List Nat} {rules : List Rule} {keys : List (List Nat)}
theorem CsOk.few (hK : ColsOk K) {cs : CsT} (h : CsOk K cs) : cs.length ≤ 5 := by
  have := nodup_len (asc_nodup h.asc) h.sub
  unfold colsC at this
  rw [List.length_map] at this
  have := hK.few
  omega
theorem CsOk.put {cs : CsT} {c : Nat} {v : Int} (h : CsOk K cs) (hc : c ∈ K) (hf : fixC cs c = none) : CsOk K (srtC (cs ++ [(c, v)])) ∧ (colsC (cs ++ [(c, v)])).Nodup := by
  have nd : (colsC (cs ++ [(c, v)])).Nodup := by
    unfold colsC
    rw [List.map_append, List.nodup_append]
    exact ⟨asc_nodup h.asc, by simp, fun a ha b hb => by
      have : b = c := by simpa using hb
      subst this
      exact fun e => fixC_none.mp hf (e ▸ ha)⟩
  refine ⟨⟨srtC_asc nd, fun d hd => ?_⟩, nd⟩
  have : d ∈ colsC (cs ++ [(c, v)]) := ((srtC_perm _).map (·.1)).mem_iff.mp hd
  unfold colsC at this
  rw [List.map_append] at this
  rcases List.mem_append.mp this with z | z
  · exact h.sub d z
  · have : d = c := by simpa using z
    rw [this]; exact hc
end
end Pu
namespace Pu
open PySem PySem.Spec PyProof.Rows L2
section
variable {K : PySem.W.Frag} {pn : Pn} {F H : Hp} {b : Nat} {v : V}
theorem BV.lstE {ds : List PyData} (bv : BV K pn F H v (.list ds)) (o : Ok pn b F H) : ∃ a vs, v = .ref a ∧ H a = some (.lst vs) ∧ ∀ F' H' b', Ok pn b' F' H' → Ext pn F H F' H' → H' a = some (.lst vs) ∧ RVs K F' vs ds := by
  rcases bv with bv | ⟨xs, e, a, vs, rfl, f, np, nc, ha, r⟩
  · cases bv with
    | lst h r => exact ⟨_, _, rfl, o.sub _ _ h, fun F' H' b' o' x => ⟨o'.sub _ _ (x.fsub _ _ h), r.mono x.fsub⟩⟩
  · cases e
    exact ⟨a, vs, rfl, ha, fun F' H' b' o' x => ⟨(x.keep _ _ ha f np).1, r.mono x.fsub⟩⟩
end
section
variable {X : Cx}
theorem i_zipB {a c : Expr} {t u : WE} {p pos tpos : Pos} {elts : List Expr} {kk : Nat} (hg : Gl X "zip") (hm : X.mg "zip" = none) (ha : EB X a t) (hb : EB X c u)
    (hs : starEach [a, c] X.env = (false, eval a X.env) :: starEach [c] X.env := by rfl) (hs2 : starEach [c] X.env = (false, eval c X.env) :: starEach [] X.env := by rfl) (hpl : (backTo pos (starEach [c] X.env)).any (·.1) = false := by rfl) :
    PI X (.Tuple elts kk tpos) (.Call (.Name "zip" p) [a, c] [] pos) (lI X.K true false (wZip t u)) :=
  PI.imp (RZ.pi_zipA hg hm (pa_cons ha (pa_cons hb pa_nil hs2) hs) hs hpl) fun σ H R ⟨pn, F, env, b, P, rep, w, k⟩ => by
    refine ⟨pn, F, env, b, _, rep, w, fun v x F1 H1 b1 o1 e1 bv t1 => ?_⟩
    refine ⟨pn, F1, env, b1, _, rep.ext o1 e1, t1, fun v2 y F2 H2 b2 o2 e2 bu t2 => ?_⟩
    have bv2 := bv.ext e2
    cases x with
    | list xs => cases y with
      | list ys =>
        obtain ⟨a1, vs, rfl, h1, k1⟩ := bv2.lstE o2
        obtain ⟨a2, us, rfl, h2, k2⟩ := bu.lstE o2
        exact ⟨_, _, _, _, rfl, .inl ⟨SqL.of h1, SqL.of h2, k _ F2 H2 b2 _ o2 (e1.trans e2) (it_zip fun F H b o c => ⟨_, _, (k1 _ _ _ o c).1, (k1 _ _ _ o c).2, (k2 _ _ _ o c).1, (k2 _ _ _ o c).2⟩) t2⟩⟩
      | _ => exact t2.elim
    | tuple xs => cases y with
      | tuple ys =>
        rcases bv2 with rv | ⟨_, z, _⟩
        · rcases bu with ru | ⟨_, z, _⟩
          · cases rv with
            | tup h r => cases ru with
              | tup h2 r2 => exact ⟨_, _, _, _, rfl, .inr ⟨Same.tup o2.sub h.sq, Same.tup o2.sub h2.sq, k _ F2 H2 b2 _ o2 (e1.trans e2) (it_zipT fun F H b o c => ⟨_, _, Same.tup o.sub (Same.tup c.fsub h.sq), r.mono c.fsub, Same.tup o.sub (Same.tup c.fsub h2.sq), r2.mono c.fsub⟩) t2⟩⟩
          · cases z
        · cases z
      | _ => exact t2.elim
    | _ => exact t2.elim
end
end Pu
namespace Pu
open PySem PySem.Spec PyProof.Rows L2 PuS
/-- x += e, whole numbers -/
def sAugI (i : Nat) (te : WE) : WS := fun PD env b => match env[i]? with
  | some (some (.d (.int x))) => te env b fun d b1 => match d with
    | .int y => PD.nx (env.set i (some (.d (.int (x + y))))) b1
    | _ => False
  | _ => False
section
variable {X : Cx} {i : Nat} {x : Str} {e : Expr} {te : WE} {pos pos' : Pos}
theorem s_augI (hN : X.N.Nodup) (hi : X.N[i]? = some x) (hx : Loc X.env.scope x) (he : EE X e te) (hf : X.fn x = true ∨ X.env.scope.names.lookup x = some .local := by first | exact .inl rfl | exact .inr rfl) : SS X (.AugAssign (.Name x pos') .Add e pos) (sAugI i te) :=
  PS.imp (ps_aug hN hi hx he ip_add hf) fun D σ H ⟨pn, F0, H0, F, env, b, PD, rep, t, k, r⟩ => by
    unfold sAugI at t
    split at t
    · rename_i a ha
      obtain ⟨v, hv, sl⟩ := rep.rep.slot i _ ha
      cases sl
      refine ⟨.int a, hv, pn, F, env, b, _, rep.rep, t, fun w d F1 H1 b1 o1 x1 rv q => ?_⟩
      cases rv with
      | int c => exact ⟨a, c, rfl, rfl, (k _ F1 H1 _ b1 ((rep.ext' o1 x1).setD (RV.int _))).1 q⟩
      | _ => exact q.elim
    · exact t.elim
end
section
variable (X : Cx) (ir : Nat) (xr : Str)
/-- the name xr in slot ir holds a text that is not empty, its token known -/
structure Sign (y : Str) (tk : Tok) (σ : L2.St) (s : Shared) : Prop where
  at_ : σ[ir]? = some (some (.str y))
  raw : Raw X xr (.str y tk) s
  t0 : tk ≠ 0
  tl : tk < s.toks
  ny : (y == Str.empty) = false
def PER (e : Expr) (t : TE) : Prop := ∀ (pins : List (Addr × Obj)) (s : Shared) (σ : L2.St) (H : Hp) (Q : VK) (y : Str) (tk : Tok), Sign X ir xr y tk σ s → Inv X pins σ H s → t σ H Q → wpAny (model X.prog X.w) X.A (eval e X.env) (EP X pins σ Q) X.xe s
def PAR (es : List Expr) (t : TA) : Prop := ∀ (pos : Pos) (pins : List (Addr × Obj)) (s : Shared) (σ : L2.St) (H : Hp) (Q : List V → Hp → Prop) (y : Str) (tk : Tok), Sign X ir xr y tk σ s → Inv X pins σ H s → t σ H Q → wpAny (model X.prog X.w) X.A (spliced (backTo pos (starEach es X.env))) (AP X pins σ Q) X.xe s
def PSR (st : Stmt) (t : TS) : Prop := ∀ (pins : List (Addr × Obj)) (s : Shared) (σ : L2.St) (H : Hp) (D : Ends) (y : Str) (tk : Tok), Sign X ir xr y tk σ s → Inv X pins σ H s → t D σ H → wpAny (model X.prog X.w) X.A (exec st X.env) (SP X pins D) X.xe s
end
section
variable {X : Cx} {ir : Nat} {xr : Str} {e : Expr} {es : List Expr} {te : WE}
theorem PER.imp {t u : TE} (h : PER X ir xr e t) (i : ∀ σ H Q, u σ H Q → t σ H Q) : PER X ir xr e u := fun pins s σ H Q y tk sg I q => h pins s σ H Q y tk sg I (i _ _ _ q)
theorem PAR.imp {t u : TA} (h : PAR X ir xr es t) (i : ∀ σ H Q, u σ H Q → t σ H Q) : PAR X ir xr es u := fun pos pins s σ H Q y tk sg I q => h pos pins s σ H Q y tk sg I (i _ _ _ q)
theorem PSR.imp {st : Stmt} {t u : TS} (h : PSR X ir xr st t) (i : ∀ D σ H, u D σ H → t D σ H) : PSR X ir xr st u := fun pins s σ H D y tk sg I q => h pins s σ H D y tk sg I (i _ _ _ q)
end
end Pu
namespace Pu
open PySem PySem.Spec PyProof.Rows L2 PuS
end Pu
namespace Pu
open PySem PySem.Spec PyProof.Rows L2 SeqAt PuS
section
variable {env : En} {n i j l ip ic ir : Nat} {N : En → Nat → Prop} {R Q : PyData → Nat → Prop} {B C : En → Nat → Prop} {ta tb : WE} {tf : WF} {u : WS} {f wt : WD}
theorem n_augI {x : Int} (hx : env[i]? = some (some (.d (.int x)))) (h : ME ta env n fun d m => ∃ y, d = .int y ∧ N (env.set i (some (.d (.int (x + y))))) m) : MS (sAugI i ta) env n N R B C := fun PD b hb kn kr kb kc => by
  unfold sAugI
  rw [hx]
  exact h b _ hb fun d m b1 ⟨y, e, q⟩ hb1 => by subst e; exact kn _ m b1 q hb1
end
end Pu
namespace PuK
open PySem PySem.W PySem.Calls PyProof.Rows
section
variable {prog : Program} {w : World} {A : Around} {E : Value → Shared → Prop} {s : Shared} {a : Addr} {vs : List Value} {P : PySem.Fin → Shared → Prop} {kz : List PyData}
/-- the keys told so far are read, away from the list of keys at k -/
def KeysAt (k : Addr) (h : Heap) (ks : List Value) (ds : List PyData) : Prop := EachIs (fun v d => (∃ as, Reads h v d as ∧ k ∉ as) ∧ alike d d = true) ks ds
theorem KeysAt.len {k : Addr} {h : Heap} {ks : List Value} {ds : List PyData} (e : KeysAt k h ks ds) : ks.length = ds.length := e.length
theorem KeysAt.plain {k : Addr} {h : Heap} {ks : List Value} {ds : List PyData} (e : KeysAt k h ks ds) : EachIs (fun v d => ∃ as, Reads h v d as) ks ds := e.mono fun _ _ ⟨⟨as, r, _⟩, _⟩ => ⟨as, r⟩
/-- the loop of the keys, then the sort -/
theorem key_loop {f : Value} {kS : Addr} {e1 : Nat} (J : List Value → Shared → Prop) (start : J [] s) (nk : s.heap.get? kS = some (seqObj "list" #[] 0)) (na : s.heap.get? a = some (seqObj "list" #[] e1)) (hka : kS ≠ a)
    (hlen : kz.length = vs.length) (hZ : vs.length ≤ sizeLine) (hal : AllAlike kz) (hsk : Sortable kz) (hu : ∀ d, d ∈ kz → A.units + d.depth < cLine)
    (jr : ∀ ks s', J ks s' → ks.length ≤ vs.length → KeysAt kS s'.heap ks (kz.take ks.length))
    (jk : ∀ ks s' h', J ks s' → (∀ b o, b ≠ kS → s'.heap.get? b = some o → h'.get? b = some o) → s'.heap.get? kS ≠ none → h'.get? kS ≠ none → J ks { s' with heap := h' })
    (turn : ∀ i v k ks s', vs[i]? = some v → kz[i]? = some k → ks.length = i → J ks s' → s'.heap.get? a = some (seqObj "list" #[] e1) → (∃ e, s'.heap.get? kS = some (seqObj "list" ks.toArray e)) →
      wpAny (model prog w) A (call f [v]) (fun r s'' => J (ks ++ [r]) s'' ∧ s''.heap.get? kS = s'.heap.get? kS ∧ s''.heap.get? a = s'.heap.get? a) (fun _ _ => False) s')
    (done : ∀ ks s' h' tk c out, J ks s' → ks.length = vs.length → (∀ b o, b ≠ a → b ≠ kS → s'.heap.get? b = some o → h'.get? b = some o) → h'.get? a = some (seqObj "list" (List.toArray out) c) → KeyedOut false kz vs out → P (.done (.ret .none)) { s' with heap := h', toks := tk }) :
    wpAny (model prog w) A (ksk_rest a f false vs.toArray e1 (.ref kS)) P E s := by
  have fold := ksk_fold (M := model prog w) (A := A) (E := E) (body := fun x _ => do
      match ← (call f [x]).attempt with
      | .ok k => Builtin.List.listUpdate (.ref kS) (·.push k)
      | .error e =>
        rule "list.sort.key-raised"
        let made ← Builtin.List.listItems (.ref kS)
        Builtin.List.listUpdate (.ref kS) fun _ => #[]
        letGo made.toList.reverse [e]
        Builtin.List.listUpdate (.ref a) fun _ => vs.toArray; throw e
      pure (ForInStep.yield ⟨⟩)) (Q := fun _ s' => wpAny (model prog w) A (Builtin.List.listItems (.ref kS) >>= fun keys => ksk_end a false vs.toArray e1 (.ref kS) keys) P E s')
    (fun i s' => ∃ ks e, ks.length = i ∧ J ks s' ∧ s'.heap.get? kS = some (seqObj "list" (List.toArray ks) e) ∧ s'.heap.get? a = some (seqObj "list" #[] e1)) vs 0 s ⟨[], 0, rfl, start, nk, na⟩ (fun j x s' hx q => ?_) fun s' q => ?_
  · unfold ksk_rest
    refine wpAny_bind (wpAny_rule ?_)
    first
      | rw [List.forIn_toArray]
      | (rw [← Array.forIn_toList]; simp only [List.toList_toArray])
    exact wpAny_bind fold
  · obtain ⟨ks, e, el, j0, nk', na'⟩ := q
    have el' : ks.length = j := by omega
    have hj : j < vs.length := (List.getElem?_eq_some_iff.mp hx).1
    obtain ⟨k, hkj⟩ : ∃ k, kz[j]? = some k := ⟨_, List.getElem?_eq_getElem (by omega)⟩
    refine wpAny_bind (wpAny_attempt (wpAny_mono (turn j x k ks s' hx hkj el' j0 na' ⟨e, nk'⟩) (fun v s'' z => ?_) fun _ _ hF => hF.elim))
    obtain ⟨j1, ek, ea⟩ := z
    have nk2 := ek.trans nk'
    have sb := Heap.SameBut.update s''.heap kS (Obj.mapSeq (·.push v))
    obtain ⟨c2, hc2⟩ : ∃ c2, (s''.heap.update kS (Obj.mapSeq (·.push v))).get? kS = some (seqObj "list" (ks ++ [v]).toArray c2) := by
      have h0 := get?_update_seq nk2 (·.push v)
      rw [show ks.toArray.push v = (ks ++ [v]).toArray by simp] at h0
      exact ⟨_, h0⟩
    have hz : ks.toArray.size ≤ sizeLine := by rw [List.size_toArray]; omega
    refine wpAny_bind (listUpdate_at nk2 rfl ?_ hz (by rw [Array.size_push]; omega))
    refine wpAny_pure ⟨rfl, ks ++ [v], c2, by rw [List.length_append]; simp; omega, jk _ s'' _ j1 (fun b o hb q => (sb.2 b hb).trans q) (by rw [nk2]; simp) (by rw [hc2]; simp), hc2, (sb.2 a hka.symm).trans (ea.trans na')⟩
  · obtain ⟨ks, e, el, j0, nk', na'⟩ := q
    have el' : ks.length = vs.length := by omega
    have hr := jr ks s' j0 (by omega)
    have e3 : kz.take ks.length = kz := List.take_of_length_le (by omega)
    rw [e3] at hr
    refine wpAny_bind (listItems_at nk' rfl ?_)
    have hp : ∀ {b : Addr} {o : Obj}, b ≠ kS → s'.heap.get? b = some o → (L2.hidT s'.heap fun c => if c = kS then some (.lst []) else none).get? b = some o := fun hb q => L2.hidT_get q (if_neg hb)
    refine keyH_end (κ := dataKind s'.heap kz) (s := s') (vs := vs) (h₁ := L2.hidT s'.heap fun c => if c = kS then some (.lst []) else none) (fun b o hb q => (L2.of_hidT q).1) ?_ nk' na' hka (SortsAt.data (s := s') (by simpa using hr.plain) hal hsk hu) (by rw [List.size_toArray, el']) hZ fun h3 tk3 c k3 n3 => ?_
    · cases q : (L2.hidT s'.heap fun c => if c = kS then some (.lst []) else none).get? kS with
      | none => rfl
      | some o =>
        have z := (L2.of_hidT q).2
        rw [if_pos rfl] at z
        cases z
    · exact done ks s' h3 tk3 c _ j0 el' (fun b o hb hb2 q => k3 b o hb (hp hb2 q)) n3 ⟨s'.heap, ks.toArray.toList, hal, rfl, by simpa using hr.plain⟩
/-- list.sort(key=f) of a list at a: k is where the keys are kept -/
theorem key_tree {f : Value} {n k : Nat} (ho : s.heap.get? a = some (seqObj "list" vs.toArray n)) (hk : k = s.heap.objs.size + 1) (J : List Value → Shared → Prop)
    (start : ∀ h', (∀ b o, b ≠ a → s.heap.get? b = some o → h'.get? b = some o) → J [] { s with heap := h' })
    (hlen : kz.length = vs.length) (hZ : vs.length ≤ sizeLine) (hal : AllAlike kz) (hsk : Sortable kz) (hu : ∀ d, d ∈ kz → A.units + d.depth < cLine)
    (jr : ∀ ks s', J ks s' → ks.length ≤ vs.length → KeysAt k s'.heap ks (kz.take ks.length))
    (jk : ∀ ks s' h', J ks s' → (∀ b o, b ≠ k → s'.heap.get? b = some o → h'.get? b = some o) → s'.heap.get? k ≠ none → h'.get? k ≠ none → J ks { s' with heap := h' })
    (turn : ∀ i v d ks s' e1, vs[i]? = some v → kz[i]? = some d → ks.length = i → J ks s' → s'.heap.get? a = some (seqObj "list" #[] e1) → (∃ e, s'.heap.get? k = some (seqObj "list" ks.toArray e)) →
      wpAny (model prog w) A (call f [v]) (fun r s'' => J (ks ++ [r]) s'' ∧ s''.heap.get? k = s'.heap.get? k ∧ s''.heap.get? a = s'.heap.get? a) (fun _ _ => False) s')
    (done : ∀ ks s' h' tk c out, J ks s' → ks.length = vs.length → (∀ b o, b ≠ a → b ≠ k → s'.heap.get? b = some o → h'.get? b = some o) → h'.get? a = some (seqObj "list" (List.toArray out) c) → KeyedOut false kz vs out → P (.done (.ret .none)) { s' with heap := h', toks := tk }) :
    wpAny (model prog w) A (ksk_tree a f false) P E s := by
  have ha : a < s.heap.objs.size := Heap.lt_size ho
  have sb := Heap.SameBut.update s.heap a (Obj.mapSeq fun _ => (#[] : Array Value))
  obtain ⟨e1, ho1⟩ : ∃ e1, (s.heap.update a (Obj.mapSeq fun _ => (#[] : Array Value))).get? a = some (seqObj "list" #[] e1) := ⟨_, get?_update_seq ho fun _ => #[]⟩
  have ek : ((s.heap.update a (Obj.mapSeq fun _ => (#[] : Array Value))).push (seqObj "tuple" vs.toArray 0)).objs.size = k := by rw [size_push', Heap.size_update, hk]
  unfold ksk_tree
  refine wpAny_bind (listItems_at ho rfl (wpAny_bind (listUpdate_at ho rfl (wpAny_bind (seqEpoch_at ho1 rfl (wpAny_bind (wpAny_newTuple (wpAny_bind (wpAny_newList (wpAny_holding ?_) (Nat.zero_le _))) (by show vs.length ≤ _; exact hZ))))) (by rw [List.size_toArray]; exact hZ) (Nat.zero_le _))))
  have key := key_loop (a := a) (E := E) (P := P) (f := f) (kS := k) (s := { s with heap := ((s.heap.update a (Obj.mapSeq fun _ => (#[] : Array Value))).push (seqObj "tuple" vs.toArray 0)).push (seqObj "list" #[] 0) }) J
    (start _ fun b o hb q => Heap.get?_push_of_some _ (Heap.get?_push_of_some _ ((sb.2 b hb).trans q))) (by rw [← ek]; exact Heap.get?_push_size _ rfl) (Heap.get?_push_of_some _ (Heap.get?_push_of_some _ ho1)) (by rw [hk]; exact Nat.ne_of_gt (Nat.lt_succ_of_lt ha)) hlen hZ hal hsk hu jr jk
    (fun i v d ks s' h1 h2 h3 h4 h5 h6 => turn i v d ks s' e1 h1 h2 h3 h4 h5 h6) done
  rw [← ek] at key
  exact key
end
end PuK
namespace Pu
open PySem PySem.Spec PyProof.Rows L2 LamX
/-- its names: the parameter x in slot ip, what its comprehensions store (own), captured ones, globals -/
structure Lam1 (N : List Str) (sc scope : Scope) (ip : Nat) (x : Str) (own : List Nat) : Prop where
  kind : scope.kind = .function
  co : scope.isCoroutine = false
  gen : scope.isGenerator = false
  nocell : ∀ y ∈ scope.names, y.2 ≠ .cell
  par : scope.names.lookup x = some .local
  at_ : N[ip]? = some x
  out : ip ∉ own
  loc : ∀ i y, N[i]? = some y → scope.names.lookup y = some .local → i = ip ∨ i ∈ own
  free : ∀ y ∈ scope.names, y.2 = .free → sc.names.lookup y.1 = some .cell ∨ sc.names.lookup y.1 = some .free
def lam1B (N : List Str) (sc scope : Scope) (ip : Nat) (x : Str) (own : List Nat) : Bool :=
  decide (scope.kind = .function) && (!scope.isCoroutine && (!scope.isGenerator && ((scope.names.all fun y => !decide (y.2 = .cell)) && (decide (scope.names.lookup x = some .local) && (decide (N[ip]? = some x) && (!decide (ip ∈ own) &&
    ((N.zipIdx.all fun p => !decide (scope.names.lookup p.1 = some .local) || (decide (p.2 = ip) || decide (p.2 ∈ own))) && (scope.names.all fun y => !decide (y.2 = .free) || (decide (sc.names.lookup y.1 = some .cell) || decide (sc.names.lookup y.1 = some .free))))))))))
theorem lam1_by {N : List Str} {sc scope : Scope} {ip : Nat} {x : Str} {own : List Nat} (h : lam1B N sc scope ip x own = true) : Lam1 N sc scope ip x own := by
  unfold lam1B at h
  simp only [Bool.and_eq_true, Bool.or_eq_true, Bool.not_eq_true', decide_eq_true_eq, decide_eq_false_iff_not, List.all_eq_true] at h
  obtain ⟨h1, h2, h3, h4, h5, h6, h7, h8, h9⟩ := h
  refine ⟨h1, h2, h3, h4, h5, h6, h7, fun i y hi hy => ?_, fun y hy e => ?_⟩
  · rcases h8 (y, i) (List.mem_zipIdx_iff_getElem?.mpr hi) with z | z
    · exact absurd hy z
    · exact z
  · rcases h9 y hy with z | z
    · exact absurd e z
    · exact z
section
variable {X : Cx} {pins : List (Addr × Obj)} {σ : L2.St} {H : Hp} {s : Shared} {N : List Str} {scope : Scope} {ip : Nat} {x : Str} {own : List Nat}
theorem Lam1.has (L : Lam1 N X.env.scope scope ip x own) (ok : X.Ok) : ∀ y ∈ scope.names, y.2 = .free → ∃ c, X.env.cells.lookup y.1 = some c := fun y hy e => (L.free y hy e).elim (fun k => ok.has _ (.inl k)) fun k => ok.has _ (.inr k)
theorem lam1_start {A : Around} {E : XK} {f c' : Addr} {h₁ : Heap} {tk : Nat} {v : V} {u : Value} (I : Inv X pins σ H s) (L : Lam1 X.N X.env.scope scope ip x own) (nd : X.N.Nodup) (hA : A.frames = X.A.frames) (hd : A.handled = none) (rv : RelV v u)
    (hns : h₁.Ns s.heap.objs.size fun y => ([(x, u)] : List (Str × Value)).reverse.lookup y) (kp : ∀ b o, s.heap.get? b = some o → h₁.get? b = some o) :
    Inv (lamCx X A X.stack s H E scope f c') [] (wipe (σ.set ip (some v)) own) H { s with heap := h₁, toks := tk } := by
  have e0 := I.env0
  have hfree := L.has I.ok
  have cm : ∀ {y c}, (cloFrom X.env.cells scope.names []).lookup y = some c → X.env.cells.lookup y = some c ∧ (y, NameKind.free) ∈ scope.names := fun {y c} e => by
    rcases cloFrom_mem (PySem.mem_of_lookup e) with hm | ⟨h1, h2⟩
    · cases hm
    · obtain ⟨c1, hc⟩ := hfree _ h1 rfl
      have hc : X.env.cells.lookup y = some c1 := hc
      refine ⟨?_, h1⟩
      rw [h2, hc] <;> rfl
  have look : ∀ {y}, scope.names.lookup y = some .free → ∃ c, (cloFrom X.env.cells scope.names []).lookup y = some c := fun {y} hl => mem_lookup (cloFrom_has (cells := X.env.cells) (acc := []) (PySem.mem_of_lookup hl))
  have noA : ∀ b : Addr, b ∉ (lamCx X A X.stack s H E scope f c').ex := fun b z => absurd (show b ∈ ([] : List Addr) from z) (by simp)
  have cellK : ∀ {c : Addr} {w : Option Value}, s.heap.IsCell c w → h₁.IsCell c w := fun ⟨o, ho, hd⟩ => ⟨o, kp _ _ ho, hd⟩
  have bound : ip < σ.length := I.len.symm ▸ (List.getElem?_eq_some_iff.mp L.at_).1
  refine ⟨⟨e0.mod, L.kind, rfl, rfl, Nat.le_refl _, fun y z c e1 e2 => I.ok.inj y z c (cm e1).1 (cm e2).1, fun y hy => ?_, fun y c z _ => ?_, fun _ => hd, Around.frames_deeper (hA.trans e0.frames), .inr ⟨rfl, rfl⟩, fun b z => absurd z (noA b), e0.bs, e0.bsz, fun b _ _ => noA b, fun b z => absurd z (noA b), e0.funs, e0.frf⟩,
    rfl, e0.bare, Un.kept kp, ⟨_, hns, fun i y w e1 e2 e3 => ?_⟩, fun y c e => ?_, e0.hok.fresh (Nat.le_refl _), fun y c e => I.freeC y c (cm e).1, fun q hq => absurd (show q ∈ ([] : List (Addr × Obj)) ++ [] from hq) (by simp), e0.hok.kept kp, ?_⟩
  · have hy : scope.names.lookup y = some .cell ∨ scope.names.lookup y = some .free := hy
    rcases hy with hy | hy
    · exact absurd rfl (L.nocell _ (PySem.mem_of_lookup hy))
    · exact look hy
  · have z : false = true := z
    cases z
  · have e3 : Vis scope y := e3
    obtain ⟨e2, no⟩ := wipe_some e2
    rcases e3 with k | k | k
    · have ei : i = ip := (L.loc i y e1 k).resolve_right no
      subst ei
      have ey : y = x := Option.some.inj (e1.symm.trans L.at_)
      subst ey
      rw [List.getElem?_set_self bound] at e2
      have ew : v = w := by simpa using e2
      subst ew
      exact ⟨u, rv, .inl ⟨k, by simp⟩⟩
    · exact absurd rfl (L.nocell _ (PySem.mem_of_lookup k))
    · have ne : i ≠ ip := fun z => by
        subst z
        have ey : y = x := Option.some.inj (e1.symm.trans L.at_)
        subst ey
        rw [L.par] at k
        cases k
      rw [List.getElem?_set_ne (Ne.symm ne)] at e2
      obtain ⟨m, hn, hl⟩ := I.loc
      have hvis : Vis X.env.scope y := (L.free _ (PySem.mem_of_lookup k) rfl).elim (fun k => .inr (.inl k)) (fun k => .inr (.inr k))
      obtain ⟨w', r, q⟩ := hl i y w e1 e2 hvis
      obtain ⟨c2, h2⟩ := look k
      refine ⟨w', r, .inr ⟨.inr k, c2, h2, ?_⟩⟩
      have c1 := (cm h2).1
      rcases q with ⟨k', _⟩ | ⟨_, c3, e', z⟩
      · have k' : X.env.scope.names.lookup y = some .local := k'
        rcases L.free _ (PySem.mem_of_lookup k) rfl with k2 | k2 <;> rw [show X.env.scope.names.lookup y = _ from k2] at k' <;> cases k'
      · rw [c1] at e'
        cases e'
        exact cellK z
  · obtain ⟨w', z⟩ := I.cell y c (cm e).1
    exact ⟨w', cellK z⟩
  · rw [wipe_length, List.length_set]
    exact I.len
/-- the lambda at f called with u -/
theorem lam1_call {A : Around} {f c' : Addr} {pm ctv : Value} {params : Arguments} {body : Expr} {k : Nat} {tb : TE} {v : V} {u : Value} {Q : VK} (I : Inv X pins σ H s) (L : Lam1 X.N X.env.scope scope ip x own) (nd : X.N.Nodup)
    (hf : s.heap.get? f = some (PySem.W.kla_obj "<lambda>" (X.env.qual ++ "<lambda>") params body scope (cloFrom X.env.cells scope.names []) pm c' ctv)) (hc : H c' = some (CodeO c' (X.env.qual ++ "<lambda>")))
    (hbind : bindArgs (PySem.W.kla_fn "<lambda>" (X.env.qual ++ "<lambda>") params body scope (cloFrom X.env.cells scope.names []) pm (.ref c') ctv) ⟨[u], []⟩ = pure [(x, u)])
    (hA : A.frames = X.A.frames) (hr : Room (k + 1) A) (hbody : Room k (A.deeper (lamEnv X scope s.heap.objs.size f c')) → PE (lamCx X A X.stack s H E0 scope f c') body tb) (rv : RelV v u) (ht : tb (wipe (σ.set ip (some v)) own) H Q) :
    wpAny (model X.prog X.w) A (call (.ref f) [u]) (EP X pins σ Q) (fun _ _ => False) s := by
  obtain ⟨⟨oc, vs, t, hoc, hdc, hvc⟩, _, _⟩ := I.hok c' _ hc
  have rc : codeAny (model X.prog X.w) A (.call (.ref f) ⟨[u], []⟩) (fun r s' => ∃ w, r = .ok (.ret w) ∧ CE X.stack X.prog X.w H s Q w s') s := by
    refine PySem.W.kla_callFunE hr.depth hf rfl L.co L.gen rfl ⟨c', oc, vs, t, rfl, hoc, hdc, hvc⟩ ?_
    rw [hbind]
    refine wpAny_pure (wpAny_newFunctionEnv L.nocell (fun y hy => ?_) (fun h₁ hns hsb => ⟨I.nolimit.fresh _ hsb, ?_⟩) L.kind)
    · have hy : y ∈ ([(x, u)] : List (Str × Value)) := hy
      rw [List.mem_singleton] at hy
      subst hy
      exact L.par
    · show codeAny _ _ (.expr body (lamEnv X scope s.heap.objs.size f c')) _ _
      have kp : ∀ b o, s.heap.get? b = some o → h₁.get? b = some o := fun b o e => hsb.extBut b o (Nat.ne_of_lt (Heap.lt_size e)) (Heap.get?_push_of_some _ e)
      have J := lam1_start (E := E0) (f := f) (c' := c') (tk := s.toks + ([(x, u)] : List (Str × Value)).length) I L nd hA hr.hd rv hns kp
      refine PySem.W.kla_codeExpr (wpAny_mono ((hbody (hr.deeper _)).run [] _ _ H Q J ht) (fun w s' hq => ?_) fun e s' hq => ?_)
      · obtain ⟨w', H', J', rw', q⟩ := hq
        exact ⟨w, rfl, w', H', J'.os, J'.bare, J'.base, J'.hok, rw', q⟩
      · refine wpAny_mono hq (fun _ s'' z => ?_) fun _ s'' z => ?_
        · obtain ⟨_, _, _, _, _, _, _, _, _, _, _, _, z⟩ := z
          exact z.elim
        · obtain ⟨_, _, _, _, _, _, _, _, _, _, _, _, z⟩ := z
          exact z.elim
  refine wpAny_call (codeAny_mono rc fun r s' z => ?_)
  obtain ⟨w, rfl, z⟩ := z
  exact I.after z
end
end Pu
namespace Pu
open PySem PySem.Spec PyProof.Rows L2 LamX
def markItems : List (Addr × Str) → List Value
  | [] => []
  | (a, q) :: r => .ref a :: .str q 0 :: markItems r
def markO (T : List (Addr × Str)) : Obj := { cls := .none, data := .seq (markItems T).toArray 0 }
def withT (K : PySem.W.Frag) (a : Addr) (T : List (Addr × Str)) : PySem.W.Frag := K ++ [(a, markO T)]
theorem tabPairs_mark : ∀ T, tabPairs (markItems T) = T
  | [] => rfl
  | (a, q) :: r => by
    show (a, q) :: tabPairs (markItems r) = _
    rw [tabPairs_mark r]
theorem tabF_with {K : PySem.W.Frag} {a : Addr} {T : List (Addr × Str)} : tabF (withT K a T) = T := by
  unfold tabF withT
  rw [List.getLast?_concat]
  show tabPairs (markItems T).toArray.toList = T
  exact tabPairs_mark T
theorem lookup_with {K : PySem.W.Frag} {a : Addr} {T : List (Addr × Str)} (h : ∃ o, K.lookup a = some o) (b : Addr) : (withT K a T).lookup b = K.lookup b := by
  unfold withT
  rw [List.lookup_append]
  cases e : K.lookup b with
  | some o => rfl
  | none =>
    have ne : b ≠ a := fun z => by
      obtain ⟨o, h⟩ := h
      rw [z, h] at e
      cases e
    show (match b == a with | true => some (markO T) | false => none) = none
    rw [beq_eq_false_iff_ne.mpr ne]
section
variable {K K' : PySem.W.Frag}
theorem codeIn_cong (e : ∀ b, K'.lookup b = K.lookup b) (v : Value) (q : Str) : PySem.W.codeIn K' v q = PySem.W.codeIn K v q := by
  unfold PySem.W.codeIn
  cases v <;> simp only [e]
theorem _root_.L2.Fun.cong (e : ∀ b, K'.lookup b = K.lookup b) {x qual : Str} {st : Stmt} {f : Addr} {fd : FuncData} (F : Fun K x qual st f fd) : Fun K' x qual st f fd := by
  obtain ⟨⟨oc, od, kV, doc, pm, an, cdv, ct, osl, h1, h2, h3⟩, _⟩ := F
  refine ⟨⟨oc, od, kV, doc, pm, an, cdv, ct, osl, h1, (e f).trans h2, (codeIn_cong e _ _).trans h3⟩, ?_⟩
  unfold PySem.W.keepIn
  simp only [e, h2]
theorem PlT.cong (e : ∀ b, K'.lookup b = K.lookup b) {F : Hp} {a : Addr} {xs : List V} (h : PlT K F a xs) : PlT K' F a xs := h.imp id fun ⟨o, its, n, h1, r⟩ => ⟨o, its, n, (e a).trans h1, r⟩
theorem In.cong (e : ∀ b, K'.lookup b = K.lookup b) {h : Heap} (X : K.In h) : K'.In h := fun a o z => X a o ((e a).symm.trans z)
end
def SysT (h : Heap) : Prop := ∃ (o : Obj) (c : String), h.get? sysModules = some o ∧ o.cls = .type c ∧ c ≠ "list"
theorem sysT_ok {h : Heap} (e : sysB h.get? = true) : SysT h := by
  unfold sysB at e
  cases q : h.get? sysModules with
  | none => rw [q] at e; cases e
  | some o =>
    rw [q] at e
    obtain ⟨c, d, dt, sl⟩ := o
    cases c with
    | type n =>
      refine ⟨_, n, q, rfl, fun z => ?_⟩
      have e' : (!decide (n = "list")) = true := e
      simp [z] at e'
    | _ => cases e
abbrev TQ := List (He.Defn × Str)
def defsT (tq : TQ) : List He.Defn := tq.map (·.1)
def tabAt (K : PySem.W.Frag) (tq : TQ) : List (Addr × Str) := tq.map fun p => ((He.cT K p.1).2, p.2)
def apartB (K : PySem.W.Frag) (tq : TQ) : Bool := decide ((tabAt K tq).map (·.1)).Nodup
def obsHK (fa : List He.Fa) (fn : List He.DefD) (tb : Tbl) (tq : TQ) (g : Addr → Option Obj) (K : PySem.W.Frag) : Bool × Bool × He.AlD := (He.tabsB g (defsT tq) K && apartB K tq, obsC fa fn tb K)
def obsHG (n : Nat) (fa : List He.Fa) (fn : List He.DefD) (tb : Tbl) (tq : TQ) (g : Addr → Option Obj) : Bool × Bool × Bool × He.AlD := (sysB g, obsHK fa fn tb tq g (He.frT g (He.asD g n)))
structure SaysH (fa : List He.Fa) (fn : List He.DefD) (tb : Tbl) (tq : TQ) (h : Heap) (K : PySem.W.Frag) : Prop where
  c : SaysC fa fn tb K
  hd : ∀ p ∈ tq, PySem.W.codeHdIn K (He.cT K p.1).1 (He.cT K p.1).2 = true
  out : ∀ p ∈ tq, K.lookup (He.cT K p.1).2 = none
  empty : ∀ p ∈ tq, h.get? (He.cT K p.1).2 = some { cls := .none, data := .fields #[] }
  nd : ((tabAt K tq).map (·.1)).Nodup
theorem saysH_of {n : Nat} {fa : List He.Fa} {fn : List He.DefD} {tb : Tbl} {tq : TQ} {h : Heap} (e : obsHK fa fn tb tq h.get? (He.frT h.get? (He.asD h.get? n)) = (true, true, He.valD fn)) : SaysH fa fn tb tq h (He.frT h.get? (He.asD h.get? n)) := by
  have e2 : (He.tabsB h.get? (defsT tq) (He.frT h.get? (He.asD h.get? n)) && apartB (He.frT h.get? (He.asD h.get? n)) tq) = true := congrArg (fun z : Bool × Bool × He.AlD => z.1) e
  have e1 : obsC fa fn tb (He.frT h.get? (He.asD h.get? n)) = (true, He.valD fn) := congrArg (fun z : Bool × Bool × He.AlD => z.2) e
  obtain ⟨h2, h5⟩ := He.ba e2
  have key : ∀ p ∈ tq, PySem.W.codeHdIn (He.frT h.get? (He.asD h.get? n)) (He.cT (He.frT h.get? (He.asD h.get? n)) p.1).1 (He.cT (He.frT h.get? (He.asD h.get? n)) p.1).2 = true ∧ ∃ o, h.get? (He.cT (He.frT h.get? (He.asD h.get? n)) p.1).2 = some o ∧ He.emptyTab o = true := fun p hp => by
    obtain ⟨h3, h4⟩ := He.ba (List.all_eq_true.mp h2 p.1 (List.mem_map.mpr ⟨p, hp, rfl⟩))
    refine ⟨h3, ?_⟩
    cases q : h.get? (He.cT (He.frT h.get? (He.asD h.get? n)) p.1).2 with
    | none =>
      rw [q] at h4
      cases h4
    | some o =>
      rw [q] at h4
      exact ⟨o, rfl, h4⟩
  exact ⟨e1, fun p hp => (key p hp).1, fun p hp => by
    obtain ⟨_, o, q, z⟩ := key p hp
    exact He.frT_none q z, fun p hp => by
    obtain ⟨_, o, q, z⟩ := key p hp
    rw [q, He.emptyTab_eq z], of_decide_eq_true h5⟩
def hookH (n : Nat) (fa : List He.Fa) (fn : List He.DefD) (tb : Tbl) (tq : TQ) : PySem.W.Hook where
  α := Bool × Bool × Bool × He.AlD
  obs := fun s => obsHG n fa fn tb tq s.heap.get?
  val := fun _ => (true, true, true, He.valD fn)
  says := fun _ h => SysT h ∧ ∃ K : PySem.W.Frag, K.In h ∧ SaysH fa fn tb tq h K
  of := fun _ _ e => ⟨sysT_ok (congrArg (fun z : Bool × Bool × Bool × He.AlD => z.1) e), _, He.frT_in, saysH_of (congrArg (fun z : Bool × Bool × Bool × He.AlD => z.2) e)⟩
  keeps := fun _ _ _ ⟨⟨o, c, e, e2, n⟩, K, hK, x⟩ k => ⟨⟨o, c, k _ _ e, e2, n⟩, K, PySem.W.Frag.In.keeps hK k, ⟨x.c, x.hd, x.out, fun p hp => k _ _ (x.empty p hp), x.nd⟩⟩
theorem obsHG_eq {n : Nat} {fa : List He.Fa} {fn : List He.DefD} {tb : Tbl} {tq : TQ} {g : Addr → Option Obj} {s : Shared} (h : ∀ a, g a = s.heap.get? a) : obsHG n fa fn tb tq g = (hookH n fa fn tb tq).obs s := by
  obtain rfl : g = s.heap.get? := funext h
  rfl
/-- the code objects and their tables -/
def codesT (K : PySem.W.Frag) (tq : TQ) : List (Addr × Addr) := tq.map fun p => He.cT K p.1
theorem nodup_map {α β : Type} {f : α → β} : ∀ {l : List α}, (l.map f).Nodup → ∀ {x y : α}, x ∈ l → y ∈ l → f x = f y → x = y
  | [], _, _, _, h, _, _ => nomatch h
  | a :: l, nd, x, y, hx, hy, e => by
    obtain ⟨n1, n2⟩ := List.nodup_cons.mp (show (f a :: l.map f).Nodup from nd)
    rcases List.mem_cons.mp hx with ex | hx
    · rcases List.mem_cons.mp hy with ey | hy
      · rw [ex, ey]
      · exact absurd (List.mem_map.mpr ⟨y, hy, by rw [← ex, e]⟩) n1
    · rcases List.mem_cons.mp hy with ey | hy
      · exact absurd (List.mem_map.mpr ⟨x, hx, by rw [← ey, e]⟩) n1
      · exact nodup_map n2 hx hy e
section
variable {fa : List He.Fa} {fn : List He.DefD} {tb : Tbl} {tq : TQ} {h : Heap} {K : PySem.W.Frag}
theorem SaysH.mem (x : SaysH fa fn tb tq h K) (i : Nat) {p : He.Defn} {q : Str} (e : tq[i]? = some (p, q) := by rfl) : ((He.cT K p).2, q) ∈ tabAt K tq := List.mem_map.mpr ⟨(p, q), List.mem_of_getElem? e, rfl⟩
theorem SaysH.uniq (x : SaysH fa fn tb tq h K) (i : Nat) {p : He.Defn} {q : Str} (e : tq[i]? = some (p, q) := by rfl) : ∀ z ∈ tabAt K tq, z.1 = (He.cT K p).2 → z.2 = q := fun z hz ez => by
  have := nodup_map x.nd hz (x.mem i e) ez
  rw [this]
theorem SaysH.cm (x : SaysH fa fn tb tq h K) (i : Nat) {p : He.Defn} {q : Str} (e : tq[i]? = some (p, q) := by rfl) : He.cT K p ∈ codesT K tq := List.mem_map.mpr ⟨(p, q), List.mem_of_getElem? e, rfl⟩
/-- the def's code object -/
theorem code_of (x : SaysH fa fn tb tq h K) (i : Nat) {p : He.Defn} {q : Str} {st : Stmt} {y qual : Str} {fd : FuncData} (F : Fun K y qual st (He.fAd K p) fd) (e : tq[i]? = some (p, q) := by rfl) : fd.code = .ref (He.cT K p).1 := by
  obtain ⟨⟨oc, od, kV, doc, pm, an, cdv, ct, osl, rfl, h2, h3⟩, _⟩ := F
  obtain ⟨c, ec⟩ := He.codeIn_ref h3
  have e1 : He.codeOf K p = c := He.codeOf_eq h2 ec
  show cdv = .ref (He.codeOf K p)
  rw [e1, ec]
end
theorem law_callH {P : Program} {w : World} {K : PySem.W.Frag} {mg mb : Str → Option Value} {k : Nat} {fa a : Addr} {cs : List (Addr × Addr)} {fd : FuncData} {x : Str} {sp : Sp} {s₁ : Shared} {vs : List Value} {ns : List Int}
    (KX : K.In s₁.heap) (hns : s₁.heap.Ns mainGlobals mg) (hb : s₁.heap.Ns builtinsNs mb) (hbb : ∀ x : Str, x ≠ "__name__" → mb x = bootBuiltins x) (hlim : s₁.heap.NoLimit) (hg : s₁.gens = #[]) (sy : SysT s₁.heap)
    (hT : ∀ p ∈ cs, s₁.heap.get? p.2 = some { cls := .none, data := .fields #[] }) (nT : ∀ p ∈ cs, K.lookup p.2 = none) (C : ∀ p ∈ cs, PySem.W.CodeHd s₁.heap p.1 p.2)
    (hbm : ∃ (bm : Addr) (ob : Obj), mg "__builtins__" = some (.ref bm) ∧ bm ≠ builtinsNs ∧ s₁.heap.get? bm = some ob ∧ ob.cls = .type "module" ∧ ob.dict = some builtinsNs ∧ ob.data = .plain)
    (ha : s₁.heap.get? a = some { cls := .type "list", data := .seq vs.toArray }) (hi : IntsAre vs ns) (hl : ns.length ≤ sizeLine) (hr : Room k callerA)
    (F : ∀ base : Heap, K.In base → base.Ns mainGlobals mg → (∀ p ∈ cs, TabB base mg p.1 p.2) → TopOk P w K mg base k fa fd [x] sp) (hbind : ∀ (s : Shared) (u : Value), BindsTo s fd ⟨[u], []⟩ [(x, u)])
    (hsp : ∀ H : Hp, (∀ p ∈ cs, H p.2 = some (.tbl #[])) → SqL K H a (ns.map V.int) → sp [.ref a] H (fun v _ => v = .bl true) fun _ _ _ => False) :
    codeAny (model P w) callerA (.call (.ref fa) ⟨[.ref a], []⟩) (fun r s' => r = .ok (.ret (.bool true)) ∧ OldK s₁.heap s'.heap ∧ s'.os = s₁.os ∧ AllBare s'.gens) s₁ := by
  have rv := vals_ints hi
  have lenV := hi.length
  have isT : ∀ b : Addr, b ∈ cs.map (·.2) → s₁.heap.get? b = some { cls := .none, data := .fields #[] } := fun b hb => by
    obtain ⟨p, hp, e⟩ := List.mem_map.mp hb
    rw [← e]
    exact hT p hp
  have aT : a ∉ cs.map (·.2) := fun z => by
    have q := isT a z
    rw [ha] at q
    have z' : Data.seq vs.toArray _ = Data.fields #[] := congrArg Obj.data (Option.some.inj q)
    cases z'
  have memT : ∀ p ∈ cs, p.2 ∈ cs.map (·.2) := fun p hp => List.mem_map.mpr ⟨p, hp, rfl⟩
  obtain ⟨os, sc, so, sk, sn⟩ := sy
  have nsA : sysModules ≠ a := fun z => by
    rw [z, ha] at so
    cases so
    exact sn (by injection sk with sk; exact sk.symm)
  have nsT : sysModules ∉ cs.map (·.2) := fun z => by
    have q := isT _ z
    rw [so] at q
    cases q
    cases sk
  -- from an abstract heap in which nothing but the script and the tables may be tracked
  have core : ∀ H : Hp, (∀ p ∈ cs, H p.2 = some (.tbl #[])) → (∀ b, H b = none ∨ b ∈ cs.map (·.2) ∨ ∃ o xs, H b = some (.frz o (.lst xs))) → SqL K H a (ns.map V.int) → HOk P w H s₁.heap → (∀ b, H b ≠ none → b = a ∨ b ∈ cs.map (·.2)) → (H a ≠ none → K.lookup a = none) →
      codeAny (model P w) callerA (.call (.ref fa) ⟨[.ref a], []⟩) (fun r s' => r = .ok (.ret (.bool true)) ∧ OldK s₁.heap s'.heap ∧ s'.os = s₁.os ∧ AllBare s'.gens) s₁ := by
    intro H hH hO hS hok hA hK
    have base_of : ∀ {b : Addr} {o : Obj}, s₁.heap.get? b = some o → H b = none → (hidT s₁.heap H).get? b = some o := fun e n => hidT_get e n
    have noD : ∀ {b : Addr} {o : Obj}, s₁.heap.get? b = some o → (∀ vs n, o.data ≠ .seq vs n) → o.data ≠ .fields #[] → H b = none := fun {b o} e h1 h2 => by
      cases q : H b with
      | none => rfl
      | some u =>
        rcases hA b (by rw [q]; simp) with e' | e'
        · rw [e', ha] at e
          cases e
          exact (h1 _ _ rfl).elim
        · rw [isT b e'] at e
          cases e
          exact (h2 rfl).elim
    have noA : ∀ {b : Addr} {o : Obj} {es : Array DictEntry} {ep : Nat}, s₁.heap.get? b = some o → o.data = .dict es ep → H b = none := fun {b o es ep} e d => by
      refine noD e (fun vs n z => ?_) fun z => ?_
      · rw [d] at z
        cases z
      · rw [d] at z
        cases z
    have nsK : ∀ {b : Addr} {m : Str → Option Value}, s₁.heap.Ns b m → (hidT s₁.heap H).Ns b m := fun {b m} ⟨o, es, ep, e, d, r⟩ => ⟨o, es, ep, base_of e (noA e d), d, r⟩
    have hKb : K.In (hidT s₁.heap H) := fun b o e => base_of (KX b o e) (by
      cases q : H b with
      | none => rfl
      | some u =>
        rcases hA b (by rw [q]; simp) with e' | e'
        · rw [e'] at e q
          rw [hK (by rw [q]; simp)] at e
          cases e
        · obtain ⟨p, hp, ep⟩ := List.mem_map.mp e'
          rw [← ep, nT p hp] at e
          cases e)
    have hM : L2.Mod K mg (hidT s₁.heap H) := ⟨hKb, nsK hns, ⟨mb, nsK hb, hbb⟩, let ⟨mc, h1, h2⟩ := hlim; ⟨mc, nsK h1, h2⟩⟩
    have TB : ∀ p ∈ cs, TabB (hidT s₁.heap H) mg p.1 p.2 := fun p hp => by
      have hTp := hT p hp
      refine ⟨?_, ?_, fun z => ?_⟩
      · obtain ⟨o, us, file, tf, flags, tg, inF, text, tt, e1, r1, r2, r3, r4, r5, r6, r7, r8, hne⟩ := C p hp
        refine ⟨o, us, file, tf, flags, tg, inF, text, tt, base_of e1 (noD e1 (fun vs n z => ?_) fun z => ?_), r1, r2, r3, r4, r5, r6, r7, r8, hne⟩
        · rw [r2] at z
          cases z
        · rw [r2] at z
          cases z
          simp at r3
      · obtain ⟨bm, ob, b1, b2, b3, b4, b5, b6⟩ := hbm
        have nG : bm ≠ mainGlobals := fun q => by
          obtain ⟨o, es, ep, e, hd, _⟩ := hns
          rw [q, e] at b3
          cases b3
          rw [hd] at b6
          cases b6
        have nP : bm ≠ p.2 := fun q => by
          rw [q, hTp] at b3
          cases b3
          cases b6
        refine ⟨bm, ob, b1, b2, nG, nP, base_of b3 (noD b3 (fun vs n z => ?_) fun z => ?_), b4, b5, b6⟩
        · rw [b6] at z
          cases z
        · rw [b6] at z
          cases z
      · obtain ⟨o, es, ep, e, hd, _⟩ := hns
        rw [z, hTp] at e
        cases e
        cases hd
    have hSys : H sysModules = none := by
      cases q : H sysModules with
      | none => rfl
      | some u =>
        rcases hA _ (by rw [q]; simp) with e' | e'
        · exact absurd e' nsA
        · exact absurd e' nsT
    have e0 : Env0 P w K mg (hidT s₁.heap H) callerA [] s₁ H := ⟨rfl, hM, fun b o e => of_hidT e, Nat.le_of_eq (hidT_size _ _), trivial, fun b hb => absurd (show b ∈ ([] : List Addr) from hb) (by simp), hok, .of_eq hg⟩
    refine codeAny_mono (F _ hKb (nsK hns) TB callerA [] s₁ H ⟨[.ref a], []⟩ [.ref a] [.ref a] _ _ hr rfl ⟨os, so⟩ hSys e0 (hbind s₁ (.ref a)) (.cons rfl .nil) (hsp H hH hS)) fun r s' h => ?_
    cases r with
    | error e => exact False.elim h
    | ok fl =>
      cases fl with
      | next => exact False.elim h
      | brk => exact False.elim h
      | cont => exact False.elim h
      | ret u =>
        obtain ⟨v, H', os', bare, un, hok', r', q⟩ := h
        have q' : v = .bl true := q
        subst q'
        obtain rfl : u = Value.bool true := r'
        have key : ∀ b o, b ∉ cs.map (·.2) → s₁.heap.get? b = some o → s'.heap.get? b = some o := fun b o nb e => by
          cases q : H b with
          | none => exact un.keep b o e q (by intro z; exact absurd (show b ∈ ([] : List Addr) from z) (by simp)) (by simp)
          | some u =>
            rcases hO b with z | z | ⟨ob, xs, z⟩
            · rw [q] at z; cases z
            · exact absurd z nb
            · have z2 := un.frzs b ob _ z
              obtain ⟨e1, _⟩ := hok b _ z
              obtain ⟨e2, _⟩ := hok' b _ z2
              rw [e] at e1; cases e1
              exact e2
        have grown : ∀ p ∈ cs, ∃ more : Array Value, s'.heap.get? p.2 = some { cls := .none, data := .fields more } := fun p hp => by
          obtain ⟨more, z⟩ := un.tbls p.2 #[] (hH p hp)
          exact ⟨_, hok' p.2 _ z⟩
        refine ⟨rfl, ⟨fun b o e => ?_, fun b o e => ?_⟩, os', bare⟩
        · by_cases hb : b ∈ cs.map (·.2)
          · obtain ⟨p, hp, ep⟩ := List.mem_map.mp hb
            obtain ⟨more, hm⟩ := grown p hp
            rw [← ep] at e ⊢
            rw [hT p hp] at e
            cases e
            exact .inr (.inl ⟨((C p hp).tab (hT p hp)).isCodeTable, rfl, #[], more, rfl, by rw [Array.empty_append]; exact hm⟩)
          · exact .inl (key b o hb e)
        · by_cases hb : b ∈ cs.map (·.2)
          · obtain ⟨p, hp, ep⟩ := List.mem_map.mp hb
            obtain ⟨more, hm⟩ := grown p hp
            rw [← ep]
            exact ⟨_, hm⟩
          · exact ⟨o, key b o hb e⟩
  cases hk : K.lookup a with
  | some o =>
    have e := KX a o hk
    rw [ha] at e
    cases e
    refine core (fun b => if b ∈ cs.map (·.2) then some (.tbl #[]) else none) (fun p hp => if_pos (memT p hp)) (fun b => ?_) (.inr ⟨_, vs.toArray, _, hk, rfl, rfl, rfl, by rw [List.size_toArray, lenV]; exact hl, by simpa using rv⟩) (fun b u z => ?_) (fun b z => ?_) fun z => absurd (show (if a ∈ cs.map (·.2) then some (HO.tbl #[]) else none) = none from if_neg aT) z
    · by_cases hb : b ∈ cs.map (·.2)
      · exact .inr (.inl hb)
      · exact .inl (if_neg hb)
    · by_cases hb : b ∈ cs.map (·.2)
      · have z' := (if_pos hb).symm.trans z
        cases z'
        exact isT b hb
      · have z' := (if_neg hb).symm.trans z
        cases z'
    · by_cases hb : b ∈ cs.map (·.2)
      · exact .inr hb
      · exact absurd (if_neg hb) z
  | none =>
    refine core (fun b => if b = a then some (.frz { cls := .type "list", data := .seq vs.toArray } (.lst (ns.map V.int))) else if b ∈ cs.map (·.2) then some (.tbl #[]) else none) (fun p hp => (if_neg (show ¬ p.2 = a from fun z => aT (by rw [← z]; exact memT p hp))).trans (if_pos (memT p hp))) (fun b => ?_)
      (.inl (.inr ⟨{ cls := .type "list", data := .seq vs.toArray }, if_pos rfl⟩)) (fun b u z => ?_) (fun b z => ?_) fun _ => hk
    · by_cases hb : b = a
      · exact .inr (.inr ⟨_, _, if_pos hb⟩)
      · by_cases hb2 : b ∈ cs.map (·.2)
        · exact .inr (.inl hb2)
        · exact .inl ((if_neg hb).trans (if_neg hb2))
    · by_cases hb : b = a
      · have z' := (if_pos hb).symm.trans z
        cases z'
        rw [hb]
        exact ⟨ha, by rw [List.length_map]; exact hl, vs, _, rv, ha⟩
      · have z1 := (if_neg hb).symm.trans z
        by_cases hb2 : b ∈ cs.map (·.2)
        · have z' := (if_pos hb2).symm.trans z1
          cases z'
          exact isT b hb2
        · have z' := (if_neg hb2).symm.trans z1
          cases z'
    · by_cases hb : b = a
      · exact .inl hb
      · by_cases hb2 : b ∈ cs.map (·.2)
        · exact .inr hb2
        · exact absurd ((if_neg hb).trans (if_neg hb2)) z
theorem walk_ofH {l : PySem.W.OpenLaw} {n k : Nat} {q : Program} {loose : List Str} {XP : (Str → Option Value) → Heap → Prop} {fa : List He.Fa} {fn : List He.DefD} {tb : Tbl} {tq : TQ} {d : DefRec} {x : Str} (hn : l.most = some n) (hn2 : n ≤ sizeLine) (hdf : d.params.defaults = []) (hr : Room k callerA)
    (F : ∀ (w : World) (mg : Str → Option Value) (a : Addr) (h : Heap) (K : PySem.W.Frag), K.In h → SaysH fa fn tb tq h K → h.Ns mainGlobals mg → mg d.name = some (.ref a) → ∃ (K' : PySem.W.Frag) (fd : FuncData) (sp : Sp), (∀ b, K'.lookup b = K.lookup b) ∧ (∀ (s : Shared) (u : Value), BindsTo s fd ⟨[u], []⟩ [(x, u)]) ∧
      (∀ (H : Hp) (a : Addr) (ns : List Int), ns.length ≤ n → (∀ p ∈ codesT K tq, H p.2 = some (.tbl #[])) → SqL K' H a (ns.map V.int) → sp [.ref a] H (fun v _ => v = .bl true) fun _ _ _ => False) ∧ ∀ base : Heap, K'.In base → base.Ns mainGlobals mg → (∀ p ∈ codesT K tq, TabB base mg p.1 p.2) → TopOk l.prog w K' mg base k a fd [x] sp) :
    PySem.W.WalkO q loose XP (fun w h => (hookH 4 fa fn tb tq).says w h) l.row.toRowW d [] (fun f vs => PySem.call f vs) := by
  refine Att.attach_call hn hdf fun w s₀ s₁ mg mb f o pm cd doc a vs ns G Y ho hd hcd hmg hobj hints hlen hg => ?_
  obtain ⟨sy, K, KX, c⟩ := Y
  obtain ⟨K', fd, sp, ek, hb, hsp, run⟩ := F w mg f _ K KX c G.T.g hmg
  have mem : ∀ {p}, p ∈ codesT K tq → ∃ z ∈ tq, p = He.cT K z.1 := fun hp => let ⟨z, hz, e⟩ := List.mem_map.mp hp; ⟨z, hz, e.symm⟩
  refine law_callH (cs := codesT K tq) (In.cong ek KX) G.T.g G.T.b G.T.builtins G.T.nolimit hg sy (fun p hp => ?_) (fun p hp => ?_) (fun p hp => ?_) G.T.bmain hobj hints (Nat.le_trans hlen hn2) hr run hb fun H hH hS => hsp H a ns hlen hH hS
  · obtain ⟨z, hz, rfl⟩ := mem hp
    exact c.empty z hz
  · obtain ⟨z, hz, rfl⟩ := mem hp
    exact (ek _).trans (c.out z hz)
  · obtain ⟨z, hz, rfl⟩ := mem hp
    exact PySem.W.codeHd_of_K KX (c.hd z hz)
end Pu
namespace Pu
open PySem PySem.Spec PyProof.Rows L2 LamX
/-- the pen in the midst of its turn -/
structure PenAt (q : Pens) (b : Nat) (F0 H0 F H : Hp) (cells : List Int) (at_ cur : Int) : Prop where
  ne : q.pa ≠ q.ca
  sub : Same F H
  ext : Ext (some q) F0 H0 F H
  f1 : F q.pa = none
  f2 : F q.ca = none
  tabs : TabsIs q.tb F H
  pen : H q.pa = some (.lst [.ref q.ca, .int at_, .int cur])
  cellsAt : H q.ca = some (.lst (cells.map V.int))
  inv : PenInv cells at_ cur b
section
variable {q : Pens} {b b' : Nat} {F0 H0 F H F1 H1 : Hp} {cells : List Int} {at_ cur at' cur' : Int}
theorem PenAt.ok (p : PenAt q b F0 H0 F H cells at_ cur) : Ok (some q) b F H := ⟨p.sub, p.f1, p.f2, p.ne, p.tabs, cells, at_, cur, p.pen, p.cellsAt, p.inv⟩
theorem PenAt.of (o : Ok (some q) b F H) (x : Ext (some q) F0 H0 F H) : ∃ cells at_ cur, PenAt q b F0 H0 F H cells at_ cur := by
  obtain ⟨f1, f2, ne, tb, cells, at_, cur, h1, h2, i⟩ := o.pen
  exact ⟨cells, at_, cur, ne, o.sub, x, f1, f2, tb, h1, h2, i⟩
theorem PenAt.le (p : PenAt q b F0 H0 F H cells at_ cur) (h : b' ≤ b) : PenAt q b' F0 H0 F H cells at_ cur :=
  ⟨p.ne, p.sub, p.ext, p.f1, p.f2, p.tabs, p.pen, p.cellsAt, p.inv.at0, by have := p.inv.most; omega, p.inv.cur0, p.inv.few⟩
theorem PenAt.turn (p : PenAt q b F0 H0 F H cells at_ cur) (i : PenInv cells at' cur' b') : PenAt q b' F0 H0 F (upd H q.pa (.lst [V.ref q.ca, V.int at', V.int cur'])) cells at' cur' := by
  refine ⟨p.ne, fun a u e => ?_, ⟨p.ext.fsub, fun a u e f n => ?_⟩, p.f1, p.f2, p.tabs.to (Same.refl _) fun t ht => ⟨(p.tabs t ht).1, upd_ne fun z => ?_⟩, upd_same, by rw [upd_ne (Ne.symm p.ne)]; exact p.cellsAt, i⟩
  · rw [upd_ne fun z => by rw [z, p.f1] at e; cases e]
    exact p.sub a u e
  · rw [upd_ne (n q rfl).1]
    exact p.ext.keep a u e f n
  · obtain ⟨_, ps, e, _⟩ := p.tabs t ht
    rw [z, p.pen] at e
    cases e
theorem PenAt.trans (p : PenAt q b F0 H0 F H cells at_ cur) {b2 : Nat} (o : Ok (some q) b2 F1 H1) (x : Ext (some q) F H F1 H1) : ∃ cells at_ cur, PenAt q b2 F0 H0 F1 H1 cells at_ cur := PenAt.of o (p.ext.trans x)
end
/-- a new pen -/
def spOpen (K : PySem.W.Frag) : Sp := fun vs H Q _ => ∃ (a : Addr) (ns : List Int), vs = [.ref a] ∧ SqL K H a (ns.map V.int) ∧ ns.length ≤ 63 ∧
  ∀ (H' : Hp) (pa ca : Addr) (cells : List Int), Same H H' → pa ≠ ca → H pa = none → H ca = none → H' pa = some (.lst [.ref ca, .int 0, .int 0]) → H' ca = some (.lst (cells.map V.int)) → cells.length ≤ 12 → Q (.ref pa) H'
/-- the law's body: the pen, then the rest by its reading -/
def spLawTop (K : PySem.W.Frag) : Sp := fun vs H Q _ => ∃ (a : Addr) (ns : List Int), vs = [.ref a] ∧ SqL K H a (ns.map V.int) ∧ ns.length ≤ 63 ∧ (∀ p ∈ tabF K, H p.1 = some (.tbl #[])) ∧ ∀ H', Q (.bl true) H'
theorem tabs_new {K : PySem.W.Frag} {H : Hp} (h : ∀ p ∈ tabF K, H p.1 = some (.tbl #[])) : TabsIs (tabF K) (fun _ => none) H := fun p hp => ⟨rfl, #[], h p hp, True.intro, fun pos cv hc => by
  have z : codeAmong pos [] = some cv := hc
  simp [codeAmong] at z⟩
theorem law_rep {K : PySem.W.Frag} {pa ca a : Addr} {N : List Str} {ip : Nat} {H : Hp} {cells : List Int} (hN : 1 ≤ N.length) (ne : pa ≠ ca) (h1 : H pa = some (.lst [.ref ca, .int 0, .int 0])) (h2 : H ca = some (.lst (cells.map V.int))) (h3 : cells.length ≤ 12) (ht : ∀ p ∈ tabF K, H p.1 = some (.tbl #[])) :
    RepS K (some ⟨pa, ca, tabF K⟩) (fun _ => none) H (fun _ => none) H ((L2.start N [.ref a]).set ip (some (.ref pa))) ((List.replicate N.length none).set ip (some .p)) 2147483648 := by
  have get : ∀ (i : Nat) (s : Sl), ((List.replicate N.length none).set ip (some Sl.p))[i]? = some (some s) → i = ip ∧ s = .p ∧ i < N.length := fun i s h => by
    have hl : i < N.length := by have := (List.getElem?_eq_some_iff.mp h).1; simpa using this
    by_cases e : i = ip
    · subst e
      rw [List.getElem?_set_self (by simpa using hl)] at h
      cases h
      exact ⟨rfl, rfl, hl⟩
    · rw [List.getElem?_set_ne (Ne.symm e)] at h
      have := List.mem_of_getElem? h
      simp at this
  have ls : (L2.start N [V.ref a]).length = N.length := by simp [L2.start]; omega
  refine ⟨⟨⟨fun _ _ h => (nomatch h), rfl, rfl, ne, tabs_new ht, cells, 0, 0, h1, h2, by decide, by decide, by decide, h3⟩, by simp [ls], fun i s h => ?_, fun i j c xs ys _ q _ _ => ?_, ⟨_, rfl, rfl⟩⟩, .refl, fun i c xs hq q _ => ?_⟩
  · obtain ⟨rfl, rfl, hl⟩ := get i s h
    exact ⟨_, List.getElem?_set_self (by rw [ls]; exact hl), (), ⟨pa, ca, tabF K⟩, rfl, rfl⟩
  · cases (get i _ q).2.1
  · rw [(get i _ q).2.1] at hq; cases hq
theorem tab_codes {K : PySem.W.Frag} {tq : TQ} {H : Hp} (h : ∀ p ∈ codesT K tq, H p.2 = some (.tbl #[])) : ∀ p ∈ tabAt K tq, H p.1 = some (.tbl #[]) := fun p hp => by
  obtain ⟨z, hz, rfl⟩ := List.mem_map.mp hp
  exact h (He.cT K z.1) (List.mem_map.mpr ⟨z, hz, rfl⟩)
/-- a def whose code object is named -/
theorem _root_.L2.Fun.okC {P : Program} {w : World} {K : PySem.W.Frag} {mg : Str → Option Value} {base : Heap} {x qual : Str} {st : Stmt} {f c : Addr} {fd : FuncData} {N ps : List Str} {k : Nat} {sp : Sp} (F : Fun K x qual st f fd) (hc : fd.code = .ref c) (S : FnScope N ps (defScope st)) (len : ∀ vs H Q E, sp vs H Q E → vs.length = ps.length)
    (hbody : ∀ (A : Around) (outer : List Env) (s : Shared) (H : Hp) (vs : List V) (Q : VK) (E : XK), Room k (A.deeper (envOfC qual (defScope st) s.heap.objs.size f (.ref c))) → sp vs H Q E →
      ∃ t, PSs (cxOf CX0 P w K mg base N qual (defScope st) f (.ref c) A outer s H E).nox (defBody st) t ∧ t { nx := fun _ H' => Q .non H', rt := Q } (start N vs) H) : FnOk P w K mg base CX0 (k + 1) f fd ps sp := by
  obtain ⟨oc, od, kV, doc, pm, an, cdv, ct, osl, rfl, lk, hcd⟩ := F.ex
  obtain rfl : cdv = .ref c := hc
  refine fn_of lk hcd S len fun A outer s H vs Q E hr hsp => ?_
  obtain ⟨t, h, q⟩ := hbody A outer s H vs Q E hr hsp
  exact ⟨t, h.nox, q⟩
section
variable {P : Program} {w : World} {K : PySem.W.Frag} {mg : Str → Option Value} {base : Heap}
theorem ok_fnC {x qual : Str} {st : Stmt} {f : Addr} {fd : FuncData} {N ps : List Str} {k : Nat} {t : WS} {c : Addr} (F : Fun K x qual st f fd) (hc : fd.code = .ref c) (S : FnScope N ps (defScope st))
    (body : ∀ (A : Around) (outer : List Env) (s : Shared) (H : Hp) (E : XK), Room k (A.deeper (envOfC qual (defScope st) s.heap.objs.size f (.ref c))) → SB (cxOf CX0 P w K mg base N qual (defScope st) f (.ref c) A outer s H E).nox (defBody st) t) :
    FnOk P w K mg base CX0 (k + 1) f fd ps (spW K (wDef ps.length N.length t)) := by
  refine F.okC hc S (fun vs H Q E h => ?_) (fun A outer s H vs Q E hr h => ?_)
  · obtain ⟨pn, F, ss, b, P, o, ar, ⟨hl, _⟩, _⟩ := h
    rw [ar.len, hl]
  · obtain ⟨pn, F, ss, b, PP, o, ar, ⟨hl, q⟩, kk⟩ := h
    exact ⟨lS K t, body A outer s H E hr, pn, F, H, F, _, b, _, start_rep o ar, q,
      fun σ' F' H' env' b' rep' => ⟨fun q => kk .non .none F' H' b' rep'.rep.ok rep'.ext .non q, fun q => q, fun q => q⟩, ⟨fun v d F' H' b' o' x' rv q => kk v d F' H' b' o' x' rv q, fun _ _ _ _ _ _ _ _ _ q => q.elim⟩⟩
end
end Pu
namespace Pu
open PySem PySem.Spec PyProof.Rows L2 LamX
section
variable {X : Cx} {pins : List (Addr × Obj)} {σ : L2.St} {F H : Hp} {s : Shared}
/-- the lambda is made: its code object is new, or found in the table -/
theorem lam_ok {q : Pens} {b : Nat} {c P : Addr} {params : Arguments} {body : Expr} {scope : Scope} {pos : Pos} {E : Value → Shared → Prop} {Q : Value → Shared → Prop} (I : Inv X pins σ H s) (o : Ok (some q) b F H) (TB : TabB X.base X.mg c P) (hcode : X.env.code = .ref c)
    (hm : (P, X.env.qual ++ "<lambda>") ∈ q.tb) (hu : ∀ p ∈ q.tb, p.1 = P → p.2 = X.env.qual ++ "<lambda>") (hdef : defaultsOf params X.env = ([], [])) (hfree : ∀ y ∈ scope.names, y.2 = .free → ∃ c, X.env.cells.lookup y.1 = some c)
    (h : ∀ (f c' : Addr) (pm ctv : Value) (F1 H1 : Hp) (s' : Shared), Inv X pins σ H1 s' → Ok (some q) b F1 H1 → Ext (some q) F H F1 H1 →
      s'.heap.get? f = some (PySem.W.kla_obj "<lambda>" (X.env.qual ++ "<lambda>") params body scope (cloFrom X.env.cells scope.names []) pm c' ctv) → H1 f = none → s.heap.objs.size ≤ f → F1 c' = some (CodeO c' (X.env.qual ++ "<lambda>")) → Q (.ref f) s') :
    wpAny (model X.prog X.w) X.A (eval (.Lambda params body scope pos) X.env) Q E s := by
  obtain ⟨f1, f2, ne, tb, cells, at_, cur, h1, h2, iv⟩ := o.pen
  obtain ⟨fP, ps, hP, ht, ha⟩ := tb _ hm
  refine PySem.W.kla_eval hdef ?_
  have bP : s.heap.BuiltinsAt X.mg P := TB.bm.keeps I.bk
  have hP' : s.heap.get? P = some { cls := .none, data := .fields ps } := I.hok P _ hP
  cases hc : codeAmong pos ps.toList with
  | none =>
    refine PySem.W.kla_makeFunction (mg := X.mg) (c := c) (P := P) (ps := ps) (closure_ok hfree) I.ok.glob (I.mod.glob.keeps I.bk) hcode (TB.code.keeps I.bk) hP' ht hc TB.gP bP fun c' ctv h' tk hx hge hlt hrec htb => ?_
    obtain ⟨c2, oc, vs, t, e2, hoc, hd, hv⟩ := hrec
    cases e2
    have hsz : s.heap.objs.size ≤ h'.objs.size := Nat.le_trans hge (Nat.le_of_lt hlt)
    have nC : H c' = none := I.hok.fresh hge
    have fC : F c' = none := o.free nC
    have I1 := inv_table (t' := tk) (more := #[rawInt pos.line, rawInt pos.col, .ref c']) (h' := h'.push (PySem.W.kla_obj "<lambda>" (X.env.qual ++ "<lambda>") params body scope (cloFrom X.env.cells scope.names []) ((X.mg "__name__").getD .none) c' ctv)) I hP
      (fun b o hb e => Heap.get?_push_of_some _ (hx b o hb e)) (Heap.get?_push_of_some _ htb) hge ⟨oc, vs, t, Heap.get?_push_of_some _ hoc, hd, hv⟩
    have eL : (ps ++ #[rawInt pos.line, rawInt pos.col, .ref c']).toList = ps.toList ++ [rawInt pos.line, rawInt pos.col, .ref c'] := by simp
    have nPc : P ≠ c' := ne_of_none hP nC
    -- all but the table stands
    have std : ∀ a u, H a = some u → a ≠ P → upd (upd H P (.tbl (ps ++ #[rawInt pos.line, rawInt pos.col, .ref c']))) c' (CodeO c' (X.env.qual ++ "<lambda>")) a = some u := fun a u e n => by
      rw [upd_ne (ne_of_none e nC), upd_ne n]
      exact e
    have nlist : ∀ a xs, H a = some (.lst xs) → a ≠ P := fun a xs e z => by
      rw [z, hP] at e
      cases e
    have sub1 : Same (upd F c' (CodeO c' (X.env.qual ++ "<lambda>"))) (upd (upd H P (.tbl (ps ++ #[rawInt pos.line, rawInt pos.col, .ref c']))) c' (CodeO c' (X.env.qual ++ "<lambda>"))) := fun a u e => by
      by_cases z : a = c'
      · subst z
        rw [upd_same] at e ⊢
        exact e
      · rw [upd_ne z] at e
        exact std a u (o.sub a u e) fun z => by rw [z, fP] at e; cases e
    have tb1 : TabsIs q.tb (upd F c' (CodeO c' (X.env.qual ++ "<lambda>"))) (upd (upd H P (.tbl (ps ++ #[rawInt pos.line, rawInt pos.col, .ref c']))) c' (CodeO c' (X.env.qual ++ "<lambda>"))) := fun p hp => by
      obtain ⟨g1, ps', g2, g3, g4⟩ := tb p hp
      refine ⟨by rw [upd_ne (ne_of_none g2 nC)]; exact g1, ?_⟩
      by_cases hb : p.1 = P
      · rw [hu p hp hb, hb]
        refine ⟨_, by rw [upd_ne nPc, upd_same], by rw [eL]; exact PySem.TriplesOk_snoc _ _ _ _ ht, fun p' cv hcv => ?_⟩
        rw [eL] at hcv
        rcases among_app _ ht hcv with z | z
        · obtain ⟨c0, e1, e2⟩ := ha p' cv z
          exact ⟨c0, e1, same_upd fC _ _ e2⟩
        · exact ⟨c', z, upd_same⟩
      · exact ⟨ps', std _ _ g2 hb, g3, fun p' cv hcv => let ⟨c0, e1, e2⟩ := g4 p' cv hcv; ⟨c0, e1, same_upd fC _ _ e2⟩⟩
    refine h h'.objs.size c' ((X.mg "__name__").getD .none) ctv _ _ _ I1 ⟨sub1, by rw [upd_ne (ne_of_none h1 nC)]; exact f1, by rw [upd_ne (ne_of_none h2 nC)]; exact f2, ne, tb1, cells, at_, cur, std _ _ h1 (nlist _ _ h1), std _ _ h2 (nlist _ _ h2), iv⟩
      ⟨same_upd fC, fun a u e fa np => ⟨std a u e ((np q rfl).2 _ hm), by rw [upd_ne (ne_of_none e nC)]; exact fa⟩⟩ (Heap.get?_push_size _ rfl) ?_ hsz upd_same
    have n1 : h'.objs.size ≠ c' := Nat.ne_of_gt hlt
    have n2 : h'.objs.size ≠ P := Nat.ne_of_gt (Nat.lt_of_lt_of_le (Heap.lt_size hP') hsz)
    rw [upd_ne n1, upd_ne n2]
    exact I.hok.fresh hsz
  | some cv =>
    obtain ⟨c', e, hco⟩ := ha pos cv hc
    subst e
    refine PySem.W.kla_makeFunctionHit (mg := X.mg) (c := c) (P := P) (ps := ps) (closure_ok hfree) I.ok.glob (I.mod.glob.keeps I.bk) hcode (TB.code.keeps I.bk) hP' ht hc bP fun ctv h' tk hx hsz => ?_
    have I1 : Inv X pins σ H { s with heap := h'.push (PySem.W.kla_obj "<lambda>" (X.env.qual ++ "<lambda>") params body scope (cloFrom X.env.cells scope.names []) ((X.mg "__name__").getD .none) c' ctv), toks := tk } := I.kept fun b o e => Heap.get?_push_of_some _ (hx b o e)
    exact h h'.objs.size c' ((X.mg "__name__").getD .none) ctv F H _ I1 o .refl (Heap.get?_push_size _ rfl) (I.hok.fresh hsz) hsz hco
mutual
theorem reads_at {p : Addr} (I : Inv X pins σ H s) (sub : Same F H) (hp : H p = none) : ∀ {v : V} {d : PyData} {u : Value}, RV X.K F v d → RelV v u → ∃ as, Reads s.heap u d as ∧ p ∉ as
  | _, _, _, .non, r => by
    cases r
    exact ⟨_, .none, by simp⟩
  | _, _, _, .bl b, r => by
    cases r
    exact ⟨_, .bool _, by simp⟩
  | _, _, _, .int i, r => by
    obtain ⟨t, rfl⟩ := r
    exact ⟨_, .int _ _, by simp⟩
  | _, _, _, .str x, r => by
    obtain ⟨t, rfl⟩ := r
    exact ⟨_, .str _ _, by simp⟩
  | _, _, _, .lst (a := a) h q, r => by
    cases r
    obtain ⟨its, rv, pl, _⟩ := I.list (SqL.of (K := X.K) (sub _ _ h))
    obtain ⟨o, ho, hc, n, hd⟩ := pl.isList
    obtain ⟨as, ra, hn⟩ := readsAll_at I sub hp q rv
    refine ⟨_, .list ho hc hd (by simpa using ra), fun z => ?_⟩
    rcases List.mem_cons.mp z with z | z
    · have := sub _ _ h
      rw [← z, hp] at this
      cases this
    · exact hn z
  | _, _, _, .tup h q, r => by
    cases r
    obtain ⟨its, rv, ⟨o, ho, hc, n, hd⟩, _⟩ := I.tuple (Same.tup sub h.sq)
    obtain ⟨as, ra, hn⟩ := readsAll_at I sub hp q rv
    exact ⟨_, .tuple ho hc hd (by simpa using ra), hn⟩
  | _, _, _, .dct (a := a) (kvs := kvs) h ek, r => by
    cases r
    subst ek
    obtain ⟨_, _, vs, kv, m⟩ := (show ObjOk X.prog X.w H s.heap a (.dK (kvs.map fun p => (Sum.inr p.1, kV p.2))) from I.hok a _ (sub _ _ h))
    obtain ⟨o, es, ep, ho, hx, hd, _, hp3, _⟩ := m
    obtain ⟨h1, h2⟩ := reads_rows kv hp3
    refine ⟨_, .dict ho hx.1 hd h1 h2, fun z => ?_⟩
    have z := List.mem_singleton.mp z
    have := sub _ _ h
    rw [← z, hp] at this
    cases this
theorem readsAll_at {p : Addr} (I : Inv X pins σ H s) (sub : Same F H) (hp : H p = none) : ∀ {vs : List V} {ds : List PyData} {us : List Value}, RVs X.K F vs ds → Vals vs us → ∃ as, ReadsAll s.heap us ds as ∧ p ∉ as
  | _, _, _, .nil, .nil => ⟨_, .nil, by simp⟩
  | _, _, _, .cons r t, .cons u w => by
    obtain ⟨as, h1, n1⟩ := reads_at I sub hp r u
    obtain ⟨bs, h2, n2⟩ := readsAll_at I sub hp t w
    exact ⟨_, .cons h1 h2, fun z => (List.mem_append.mp z).elim n1 n2⟩
end
end
end Pu
namespace PuK
open PySem PySem.W PySem.Calls PyProof.Rows
section
variable {prog : Program} {w : World} {A : Around} {E : Value → Shared → Prop} {s : Shared}
/-- sorted(x, key=f), x's items taken first, whatever they are -/
theorem sortedK2 {x : Value} {fa : Addr} {Kp : List Value → Shared → Prop} {Q : Value → Shared → Prop} (hc : ∀ (R : List Value → Shared → Prop), (∀ vs s1, Kp vs s1 → R vs s1) → wpAny (model prog w) A.in1 (collect x) R E s) (hL : ∀ vs s1, Kp vs s1 → vs.length ≤ sizeLine)
    (body : ∀ vs s1, Kp vs s1 → ∀ E' : Value → Shared → Prop, wpAny (model prog w) A.in1.in1 (ksk_tree s1.heap.objs.size (.ref fa) false) (fun fin s' => fin = .done (.ret .none) ∧ Q (.ref s1.heap.objs.size) s') E' { s1 with heap := s1.heap.push (seqObj "list" vs.toArray 0) }) :
    wpAny (model prog w) A (call (.builtin "sorted") [x] [(Str.ofString "key", .ref fa)]) Q E s := by
  refine call_function_entry_kw kind_sorted plain_sorted entry_sorted (ksk_s1 _ _) ?_
  unfold Builtin.«sorted»
  refine wpAny_bind (m := checkCount "sorted" 1 1 _) (wpAny_pure (wpAny_bind (hc _ fun vs s1 k1 => ?_)))
  have hoL : (s1.heap.push (seqObj "list" vs.toArray 0)).get? s1.heap.objs.size = some (seqObj "list" vs.toArray 0) := Heap.get?_push_size _ rfl
  refine wpAny_bind (wpAny_newList (wpAny_bind (wpAny_holding (wpAny_call_entry_kw slot_list_sort ⟨_, hoL, rfl⟩ entry_list_sort ?_ (ksk_l1 _ _)))) (hL vs s1 k1))
  rw [ksk_t1]
  refine wpAny_mono (body vs s1 k1 E) (fun fin s' z => ?_) fun _ _ e => e
  obtain ⟨rfl, hq⟩ := z
  exact ⟨_, rfl, wpAny_pure ⟨_, rfl, hq⟩⟩
end
end PuK
namespace Pu
open PySem PySem.Spec PyProof.Rows L2 LamX
theorem each_memR {α β : Type} {R R' : α → β → Prop} : ∀ {us : List α} {ds : List β}, W.EachIs R us ds → (∀ u d, d ∈ ds → R u d → R' u d) → W.EachIs R' us ds
  | _, _, .nil, _ => .nil
  | _, _, .cons r t, h => .cons (h _ _ List.mem_cons_self r) (each_memR t fun u d hd => h u d (List.mem_cons_of_mem _ hd))
theorem each_snoc {α β : Type} {R : α → β → Prop} : ∀ {us : List α} {ds : List β} {u : α} {d : β}, W.EachIs R us ds → R u d → W.EachIs R (us ++ [u]) (ds ++ [d])
  | _, _, _, _, .nil, r => .cons r .nil
  | _, _, _, _, .cons r t, q => .cons r (each_snoc t q)
theorem each_atK {α β : Type} {R : α → β → Prop} : ∀ {us : List α} {ds : List β} {i : Nat} {u : α} {d : β}, W.EachIs R us ds → us[i]? = some u → ds[i]? = some d → R u d
  | _, _, 0, _, _, .cons r _, h1, h2 => by
    simp at h1 h2
    rw [← h1, ← h2]
    exact r
  | _, _, i + 1, _, _, .cons _ t, h1, h2 => each_atK (i := i) t (by simpa using h1) (by simpa using h2)
  | _, _, _, _, _, .nil, h1, _ => by simp at h1
theorem Stands.mono {K : PySem.W.Frag} {F G : Hp} (e : Same F G) {u : Value} {d : PyData} : Stands K F u d → Stands K G u d := fun ⟨v, r, q⟩ => ⟨v, r, q.mono e⟩
/-- what x's items stand for, collected from now on -/
def CollAt (X : Cx) (F : Hp) (s : Shared) (xv : Value) (ds : List PyData) : Prop := ∀ (E : Value → Shared → Prop) (R : List Value → Shared → Prop),
  (∀ (h' : Heap) (tk : Nat) (vs : List Value), (∀ b o, s.heap.get? b = some o → h'.get? b = some o) → W.EachIs (Stands X.K F) vs ds → R vs { s with heap := h', toks := tk }) → wpAny (model X.prog X.w) X.A.in1 (collect xv) R E s
/-- an expression whose items are these -/
def PCol (X : Cx) (e : Expr) (t : WF) : Prop := ∀ (pins : List (Addr × Obj)) (s : Shared) (σ : L2.St) (H : Hp) (pn : Pn) (F : Hp) (env : En) (b : Nat) (P : List PyData → Nat → Prop), Inv X pins σ H s → Rep X.K pn F H σ env b → t env b P →
  wpAny (model X.prog X.w) X.A (eval e X.env) (fun v s1 => ∃ (ex : List (Addr × Obj)) (F1 H1 : Hp) (b1 : Nat) (ds : List PyData), Inv X (pins ++ ex) σ H1 s1 ∧ Ok pn b1 F1 H1 ∧ Ext pn F H F1 H1 ∧ P ds b1 ∧
    ∀ (F2 H2 : Hp) (s2 : Shared), Inv X (pins ++ ex) σ H2 s2 → Ok pn b1 F2 H2 → Ext pn F1 H1 F2 H2 → ds.length ≤ sizeLine → CollAt X F2 s2 v ds) X.xe s
section
variable {X : Cx}
/-- a list, a tuple -/
def wColD (t : WE) : WF := fun env b P => t env b fun d b1 => ∃ ds, (d = .list ds ∨ d = .tuple ds) ∧ P ds b1
theorem c_data {a : Expr} {ta : WE} (hc : X.calm = true) (ha : EB X a ta) : PCol X a (wColD ta) := by
  intro pins s σ H pn F env b P I rep t
  refine thn (ha.run pins s σ H (fun v H1 => ∃ d F1 b1, Ok pn b1 F1 H1 ∧ Ext pn F H F1 H1 ∧ BV X.K pn F1 H1 v d ∧ ∃ ds, (d = .list ds ∨ d = .tuple ds) ∧ P ds b1) I ⟨pn, F, env, b, _, rep, t, fun v d F1 H1 b1 o1 e1 rv q => ⟨d, F1, b1, o1, e1, rv, q⟩⟩) fun v s1 ⟨x, H1, I1, r1, d, F1, b1, o1, e1, bv, ds, ei, q⟩ => ?_
  refine ⟨[], F1, H1, b1, ds, by rw [List.append_nil]; exact I1, o1, e1, q, fun F2 H2 s2 I2 o2 e2 lz E R hR => ?_⟩
  rw [List.append_nil] at I2
  have bv := bv.ext e2
  rcases ei with rfl | rfl
  · obtain ⟨l, vs, rfl, hl, rvs⟩ := bv.list o2
    cases r1
    obtain ⟨its, rv, pl, hz⟩ := I2.list (SqL.of hl)
    obtain ⟨o, e1, e2, n, e3⟩ := pl.isList
    exact wpAny_collect_seq l (.inl rfl) e1 e2 e3 (fun h' hk => hR h' s2.toks _ hk (by simpa using stands_of rv rvs)) (by rw [List.size_toArray, ← rv.length, rvs.len]; exact lz)
  · obtain ⟨l, vs, rfl, hl, rvs⟩ := bv.tup o2
    cases r1
    obtain ⟨its, rv, ⟨o, e1, e2, n, e3⟩, hz⟩ := I2.tuple hl
    exact wpAny_collect_seq l (.inr rfl) e1 e2 e3 (fun h' hk => hR h' s2.toks _ hk (by simpa using stands_of rv rvs)) (by rw [List.size_toArray, ← rv.length, rvs.len]; exact lz)
/-- range(a) -/
def wColR (t : WE) : WF := fun env b P => t env b fun d b1 => ∃ n : Nat, d = .int (n : Int) ∧ n ≤ 1000 ∧ P (rngD 0 n) b1
theorem c_range {a : Expr} {ta : WE} {p pos : Pos} (hc : X.calm = true) (hg : Gl X "range") (hm : X.mg "range" = none) (ha : EB X a ta) (na : starEach [a] X.env = (false, eval a X.env) :: starEach [] X.env := by rfl) : PCol X (.Call (.Name "range" p) [a] [] pos) (wColR ta) := by
  intro pins s σ H pn F env b P I rep t
  refine Call_ (ld_blt I hg hm boot_range (PyProof.Rows.callWith_type1 (one_arg ha I (σ := σ) (R := fun v H1 => ∃ d F1 b1, Ok pn b1 F1 H1 ∧ Ext pn F H F1 H1 ∧ BV X.K pn F1 H1 v d ∧ ∃ n : Nat, d = .int (n : Int) ∧ n ≤ 1000 ∧ P (rngD 0 n) b1) ⟨pn, F, env, b, _, rep, t, fun v d F1 H1 b1 o1 e1 rv q => ⟨d, F1, b1, o1, e1, rv, q⟩⟩ (fun v s2 x H1 I1 r1 q1 => ?_) na) na))
  obtain ⟨d, F1, b1, o1, e1, bv, n, rfl, hn, q⟩ := q1
  obtain rfl := bv.int
  obtain ⟨t1, rfl⟩ := r1
  refine call_range_1 ⟨[(s2.heap.objs.size, { cls := .type "range", data := .fields #[.int 0 s2.toks, .int n t1, .int 1 (s2.toks + 1)] })], F1, H1, b1, rngD 0 n, ?_, o1, e1, q, fun F2 H2 s3 I3 o3 e3 lz E R hR => ?_⟩
  · have I2 : Inv X pins σ H1 { s2 with heap := s2.heap.push { cls := .type "range", data := .fields #[.int 0 s2.toks, .int n t1, .int 1 (s2.toks + 1)] }, toks := s2.toks + 1 + 1 } := I1.kept fun b u e => Heap.get?_push_of_some _ e
    refine I2.pins_of fun z hz => ?_
    rcases List.mem_append.mp hz with hz | hz
    · exact I2.pin z (List.mem_append_right _ hz)
    · rw [List.mem_singleton.mp hz]
      exact ⟨Heap.get?_push_size _ rfl, I1.hok.fresh (Nat.le_refl _), Nat.ne_of_gt I1.lt, I1.nofs (Nat.le_refl _), fun v z => nomatch z⟩
  · have hr : IsRange s3.heap s2.heap.objs.size 0 n 1 s2.toks t1 (s2.toks + 1) := (I3.pin _ (List.mem_append_right _ (List.mem_append_right _ (List.mem_singleton.mpr rfl)))).1
    refine collect_range (n := n) (I3.ok.hd hc) hr (small_one (by omega) (by omega) (by omega) (by omega)) ?_ (by omega) fun h' tk acc hk hi => hR h' tk acc.toList hk ?_
    · have := rangeSize_nat 0 (n : Int)
      simpa using this
    · refine each_at (by rw [Array.length_toList, hi.1]; simp [rngD]) fun i u d g1 g2 => ?_
      rw [Array.getElem?_toList] at g1
      obtain ⟨t2, rfl⟩ := hi.2 i u g1
      have hi2 : i < (rngD 0 n).length := (List.getElem?_eq_some_iff.mp g2).1
      simp only [rngD, List.getElem?_map] at g2
      have hi3 : i < n := by simpa [rngD] using hi2
      rw [List.getElem?_range hi3] at g2
      cases g2
      exact ⟨.int (0 + (i : Int)), ⟨t2, by simp⟩, .int _⟩
end
end Pu
namespace Pu
open PySem PySem.Spec PyProof.Rows L2 LamX
/-- sorted(.., key=lambda ..): the keys are what the lambda's body reads -/
def wSortK (ti : WF) (ip : Nat) (own : List Nat) (tb : WE) : WF := fun env b P => ti env b fun ds b1 => ds.length ≤ 1000 ∧ ∃ key : PyData → PyData, W.AllAlike (ds.map key) ∧ W.Sortable (ds.map key) ∧ (∀ d ∈ ds, (key d).depth ≤ 40) ∧
  (∀ x ∈ ds, tb (wipeE (env.set ip (some (.d x))) own) b1 fun d b2 => d = key x ∧ b1 ≤ b2) ∧ P (ds.mergeSort (W.dataLe false key)) b1
section
variable {X : Cx}
theorem f_sortK {a : Expr} {ti : WF} {ip : Nat} {own : List Nat} {x : Str} {tb : WE} {params : Arguments} {body : Expr} {scope : Scope} {lpos kp p pos : Pos} {c P : Addr} {k : Nat} (hc : X.calm = true) (hg : Gl X "sorted") (hm : X.mg "sorted" = none) (ha : PCol X a ti)
    (hr : Room (k + 3) X.A) (TB : TabB X.base X.mg c P) (hcode : X.env.code = .ref c) (hmT : (P, X.env.qual ++ "<lambda>") ∈ tabF X.K) (huT : ∀ z ∈ tabF X.K, z.1 = P → z.2 = X.env.qual ++ "<lambda>")
    (L : Lam1 X.N X.env.scope scope ip x own) (nd : X.N.Nodup) (hdef : defaultsOf params X.env = ([], []))
    (hbind : ∀ (clo : List (Str × Addr)) (pm ctv u : Value) (c' : Addr), bindArgs (PySem.W.kla_fn "<lambda>" (X.env.qual ++ "<lambda>") params body scope clo pm (.ref c') ctv) ⟨[u], []⟩ = pure [(x, u)])
    (hbody : ∀ (s : Shared) (H : Hp) (f c' : Addr), Room k (X.A.in1.in1.deeper (lamEnv X scope s.heap.objs.size f c')) → EE (lamCx X X.A.in1.in1 X.stack s H E0 scope f c') body tb)
    (na : starEach [a] X.env = (false, eval a X.env) :: starEach [] X.env := by rfl)
    (he : backTo pos (starEach [a] X.env) = (false, eval a X.env) :: backTo pos (starEach [] X.env) := by rfl) (hplain : (backTo pos (starEach [a] X.env)).any (·.1) = false := by rfl)
    (hall : (backToKw pos (keywordEach [⟨some "key", .Lambda params body scope lpos, kp⟩] X.env)).all (·.1.isSome) = true := by rfl) (hkw : (backToKw pos (keywordEach [⟨some "key", .Lambda params body scope lpos, kp⟩] X.env)).any (·.1.isNone) = false := by rfl) :
    EF X (.Call (.Name "sorted" p) [a] [⟨some "key", .Lambda params body scope lpos, kp⟩] pos) (wSortK ti ip own tb) := by
  refine ⟨fun pins s σ H Q I h => ?_⟩
  obtain ⟨pn, F, env, b, PP, rep, t, kk⟩ := h
  obtain ⟨q, rfl, et⟩ := rep.tk
  refine wpAny_Call_Name_kw (ld_blt I hg hm boot_sorted2 ?_)
  refine callWith_kw (PyProof.Rows.args_cons (thn (ha pins s σ H _ F env b _ I rep t) fun v s1 hv => PyProof.Rows.args_nil ?_) na) he hplain hall hkw
  obtain ⟨ex, F1, H1, b1, ds, I1, o1, e1, q1, coll⟩ := hv
  obtain ⟨ln, key, al, so, dp, kread, q1⟩ := q1
  have lz : ds.length ≤ sizeLine := by rw [sizeLine_eq]; omega
  refine kws_cons (lam_ok I1 o1 TB hcode (by rw [et]; exact hmT) (by rw [et]; exact huT) hdef (L.has I1.ok) fun f c' pm ctv F2 H2 s2 I2 o2 e2 hf hfn hfs hcc => kws_nil ?_)
  show wpAny _ _ (call (.builtin "sorted") [v] [(Str.ofString "key", .ref f)]) _ _ _
  refine PuK.sortedK2 (Kp := fun vs s3 => ∃ h' tk, s3 = { s2 with heap := h', toks := tk } ∧ (∀ b o, s2.heap.get? b = some o → h'.get? b = some o) ∧ W.EachIs (Stands X.K F2) vs ds) (fun R hR => coll F2 H2 s2 I2 o2 e2 lz _ R fun h' tk vs hk each => hR vs _ ⟨h', tk, rfl, hk, each⟩) (fun vs s3 ⟨_, _, _, _, each⟩ => by rw [each.length]; exact lz) ?_
  rintro vs _ ⟨h', tk, rfl, hk, each⟩ E'
  have lv : vs.length = ds.length := each.length
  have J0 : Inv X (pins ++ ex) σ H2 { s2 with heap := h', toks := tk } := I2.kept hk
  have far : ∀ z, h'.objs.size ≤ z → (z ∈ X.ex ∨ X.s_0.heap.objs.size ≤ z) ∧ z ≠ X.env.locals ∧ (∀ y c, X.env.cells.lookup y = some c → c ≠ z) ∧ (∀ p ∈ X.pn ++ (pins ++ ex), p.1 ≠ z) ∧ z ∉ X.fs ∧ H2 z = none := fun z hz => by
    refine ⟨.inr (Nat.le_trans J0.sz hz), Nat.ne_of_gt (Nat.lt_of_lt_of_le J0.lt hz), fun y c e => ?_, fun p hp => ?_, J0.nofs hz, J0.hok.fresh hz⟩
    · obtain ⟨_, o, ho, _⟩ := J0.cell y c e
      exact Nat.ne_of_lt (Nat.lt_of_lt_of_le (Heap.lt_size ho) hz)
    · exact Nat.ne_of_lt (Nat.lt_of_lt_of_le (Heap.lt_size (J0.pin p hp).1) hz)
  have fLt : f < h'.objs.size := Heap.lt_size (hk f _ hf)
  generalize eA : h'.objs.size = aL at *
  have szp : (h'.push (seqObj "list" vs.toArray 0)).objs.size = aL + 1 := by rw [size_push', eA]
  obtain ⟨a1, a2, a3, a4, a5, a6⟩ := far aL (Nat.le_refl _)
  obtain ⟨k1, k2, k3, k4, k5, k6⟩ := far (aL + 2) (by omega)
  have J1 : Inv X (pins ++ ex) σ H2 { s2 with heap := h'.push (seqObj "list" vs.toArray 0), toks := tk } := J0.kept (t' := tk) fun b o e => Heap.get?_push_of_some _ e
  have ho : (h'.push (seqObj "list" vs.toArray 0)).get? aL = some (seqObj "list" vs.toArray 0) := by rw [← eA]; exact Heap.get?_push_size _ rfl
  have lk : (ds.map key).length = vs.length := by rw [List.length_map, lv]
  refine PuK.key_tree (kz := ds.map key) (k := aL + 2) (f := .ref f) ho (by show aL + 2 = (h'.push _).objs.size + 1; rw [szp])
    (fun ks s' => ∃ F3 H3, Inv X (pins ++ ex) σ H3 s' ∧ Ok (some q) b1 F3 H3 ∧ Ext (some q) F2 H2 F3 H3 ∧ H3 aL = none ∧ H3 (aL + 2) = none ∧ H3 f = none ∧ s'.heap.get? f = some (PySem.W.kla_obj "<lambda>" (X.env.qual ++ "<lambda>") params body scope (cloFrom X.env.cells scope.names []) pm c' ctv) ∧ W.EachIs (Stands X.K F3) ks ((ds.map key).take ks.length))
    (fun h2 hk2 => ?_) lk (by rw [lv]; exact lz) al so (fun d hd => ?_) (fun ks s' J hl => ?_) (fun ks s' h2 J hk2 _ _ => ?_) (fun i u d ks s' ep g1 g2 g3 J g5 g6 => ?_) (fun ks s' h2 tk2 cc out J hl hk2 ha2 ko => ?_)
  · -- the start
    exact ⟨F2, H2, J1.turned (t' := tk) (it := aL) (fun b o hb e => hk2 b o hb e) a6 a2 a1 a3 a4, o2, .refl, a6, k6, hfn, hk2 f _ (Nat.ne_of_lt fLt) (Heap.get?_push_of_some _ (hk f _ hf)), .nil⟩
  · obtain ⟨y, hy, rfl⟩ := List.mem_map.mp hd
    have := dp y hy
    have := hr.un
    show X.A.units + 1 + 1 + (key y).depth < cLine
    omega
  · -- the keys are read
    obtain ⟨F3, H3, I3, o3, e3, n1, n2, n3, f3, kk3⟩ := J
    refine each_memR kk3 fun u d hd ⟨w, rw_, rv⟩ => ?_
    have hd : d ∈ ds.map key := List.mem_of_mem_take hd
    exact ⟨reads_at I3 o3.sub n2 rv rw_, al d hd d hd⟩
  · obtain ⟨F3, H3, I3, o3, e3, n1, n2, n3, f3, kk3⟩ := J
    exact ⟨F3, H3, I3.turned (t' := s'.toks) (it := aL + 2) (fun b o hb e => hk2 b o hb e) n2 k2 k1 k3 k4, o3, e3, n1, n2, n3, hk2 f _ (Nat.ne_of_lt (Nat.lt_of_lt_of_le fLt (Nat.le_add_right aL 2))) f3, kk3⟩
  · -- a turn
    obtain ⟨F3, H3, I3, o3, e3, n1, n2, n3, f3, kk3⟩ := J
    obtain ⟨ek, g6⟩ := g6
    obtain ⟨y, gy, rfl⟩ : ∃ y, ds[i]? = some y ∧ key y = d := by
      rw [List.getElem?_map] at g2
      obtain ⟨y, g, e⟩ := Option.map_eq_some_iff.mp g2
      exact ⟨y, g, e⟩
    obtain ⟨w, rw_, rv⟩ := (each_atK each g1 gy).mono e3.fsub
    have I4 : Inv X ((pins ++ ex) ++ [(aL, seqObj "list" #[] ep), (aL + 2, seqObj "list" ks.toArray ek), (f, PySem.W.kla_obj "<lambda>" (X.env.qual ++ "<lambda>") params body scope (cloFrom X.env.cells scope.names []) pm c' ctv)]) σ H3 s' := I3.pins_of fun z hz => by
      rcases List.mem_append.mp hz with hz | hz
      · exact I3.pin z (List.mem_append_right _ hz)
      · rcases List.mem_cons.mp hz with rfl | hz
        · exact ⟨g5, n1, a2, a5, fun v z => nomatch z⟩
        · rcases List.mem_cons.mp hz with rfl | hz
          · exact ⟨g6, n2, k2, k5, fun v z => nomatch z⟩
          · rw [List.mem_singleton.mp hz]
            exact ⟨f3, n3, Nat.ne_of_gt (Nat.lt_of_lt_of_le I1.lt hfs), I1.nofs hfs, fun v z => nomatch z⟩
    have rep3 := ((rep.ext o3 (e1.trans (e2.trans e3))).setD (i := ip) rv).wipe own
    refine wpAny_mono (lam1_call (v := w) (Q := fun r H4 => ∃ F4 b4, b1 ≤ b4 ∧ Ok (some q) b4 F4 H4 ∧ Ext (some q) F3 H3 F4 H4 ∧ RV X.K F4 r (key y)) I4 L nd f3 (o3.sub _ _ (e3.fsub _ _ hcc)) (hbind _ _ _ _ _) rfl hr.in1.in1 (fun hr' => hbody s' H3 f c' hr') rw_
      ⟨some q, F3, _, b1, _, rep3, kread y (List.mem_of_getElem? gy), fun r d F' H' b' o' e' rv' ⟨ed, hb⟩ => ⟨F', b', hb, o', e', ed ▸ rv'⟩⟩) (fun r s'' z => ?_) fun _ _ z => z
    obtain ⟨r', H4, I5, rr, F4, b4, hb, o4, e4, rvd⟩ := z
    have pin : ∀ z ∈ ([(aL, seqObj "list" #[] ep), (aL + 2, seqObj "list" ks.toArray ek), (f, PySem.W.kla_obj "<lambda>" (X.env.qual ++ "<lambda>") params body scope (cloFrom X.env.cells scope.names []) pm c' ctv)] : List (Addr × Obj)), s''.heap.get? z.1 = some z.2 ∧ H4 z.1 = none := fun z hz => ⟨(I5.pin z (List.mem_append_right _ (List.mem_append_right _ hz))).1, (I5.pin z (List.mem_append_right _ (List.mem_append_right _ hz))).2.1⟩
    have p1 := pin _ (List.mem_cons_self)
    have p2 := pin _ (List.mem_cons_of_mem _ List.mem_cons_self)
    have p3 := pin _ (List.mem_cons_of_mem _ (List.mem_cons_of_mem _ List.mem_cons_self))
    refine ⟨⟨F4, H4, I5.pins_of fun z hz => I5.pin z (List.mem_append_right _ (List.mem_append_left _ hz)), ⟨o4.sub, o4.pen.le hb⟩, e3.trans e4, p1.2, p2.2, p3.2, p3.1, ?_⟩, p2.1.trans g6.symm, p1.1.trans g5.symm⟩
    have et : (ds.map key).take (ks ++ [r]).length = (ds.map key).take ks.length ++ [key y] := by
      rw [List.length_append, List.length_singleton, List.take_succ, g3, g2]
      rfl
    rw [et]
    exact each_snoc (each_memR kk3 fun u d _ h => h.mono e4.fsub) ⟨r', rr, rvd⟩
  · -- the end
    obtain ⟨F3, H3, I3, o3, e3, n1, n2, n3, f3, kk3⟩ := J
    have so3 := W.keyedOut_each key ko (each_memR each fun u d _ h => h.mono e3.fsub)
    obtain ⟨ws, hv, hrv⟩ := of_stands so3
    have lw : ws.length ≤ sizeLine := by
      rw [hrv.len, List.length_mergeSort]
      exact lz
    have I4 : Inv X pins σ H3 s' := I3.pins_of fun z hz => I3.pin z (List.mem_append_right _ (List.mem_append_left _ hz))
    have nA : ∀ b u, H3 b = some u → b ≠ aL := fun b u e z => by rw [z, n1] at e; cases e
    have nK : ∀ b u, H3 b = some u → b ≠ aL + 2 := fun b u e z => by rw [z, n2] at e; cases e
    have nch : ∀ {b : Addr}, b ∉ [aL, aL + 2] → b ≠ aL ∧ b ≠ aL + 2 := fun h => ⟨fun z => h (by simp [z]), fun z => h (by simp [z])⟩
    have J6 : Inv X pins σ (upd H3 aL (.lst ws)) { s' with heap := h2, toks := tk2 } := by
      refine I4.call' (ch := [aL, aL + 2]) rfl ⟨fun b o e n _ hx => hk2 b o (nch hx).1 (nch hx).2 e, fun b o e n _ hx => ⟨o.slots, hk2 b o (nch hx).1 (nch hx).2 e⟩, fun b o e n hx => by rw [upd_ne (nch hx).1]; exact n, fun b o e hx => ⟨o, hk2 b o (nch hx).1 (nch hx).2 e⟩,
        fun b xs e => by rw [upd_ne (nA _ _ e)]; exact e, fun b o u e => by rw [upd_ne (nA _ _ e)]; exact e, fun b ps e => ⟨#[], by rw [upd_ne (nA _ _ e), e]; simp⟩⟩ (fun b u e => ?_) I4.bare fun b hb => ?_
      · by_cases z : b = aL
        · rw [z, upd_same] at e
          cases e
          rw [z]
          exact ⟨lw, out, cc, hv, ha2⟩
        · rw [upd_ne z] at e
          refine (I4.hok b u e).stay (fun d v hd q => ?_) (fun d q => by rw [upd_ne (nA _ _ q)]; exact q) fun d xs q => by rw [upd_ne (nA _ _ q)]; exact q
          rcases hd with z2 | z2
          · rw [z2] at q ⊢
            exact hk2 _ v z (nK _ _ e) q
          · exact hk2 _ v (nA _ _ z2) (nK _ _ z2) q
      · rcases List.mem_cons.mp hb with rfl | hb
        · exact ⟨a1, a2, a3, fun p hp => a4 p ((List.mem_append.mp hp).elim (fun z => List.mem_append_left _ z) fun z => List.mem_append_right _ (List.mem_append_left _ z))⟩
        · rw [List.mem_singleton.mp hb]
          exact ⟨k1, k2, k3, fun p hp => k4 p ((List.mem_append.mp hp).elim (fun z => List.mem_append_left _ z) fun z => List.mem_append_right _ (List.mem_append_left _ z))⟩
    have ap := o3.pen.apartN n1
    have eT := e1.trans (e2.trans e3)
    exact ⟨rfl, .ref aL, _, J6, rfl, kk (.ref aL) _ F3 _ b1 (o3.own n1) (eT.trans (Ext.own n1)) ⟨aL, ws, rfl, o3.free n1, ap.1, ap.2, upd_same, hrv⟩ (fun a' e => by cases e; exact eT.back rep.ok o3 n1) q1⟩
end
end Pu
namespace Pu
open PySem PySem.Spec PyProof.Rows L2
theorem rvs_rng {K : PySem.W.Frag} {F : Hp} (n : Nat) : RVs K F (rgV 0 (n : Int)) (rngD 0 n) := by
  have e : ((n : Int) - 0).toNat = n := by omega
  unfold rgV rngD
  rw [e]
  generalize List.range n = l
  induction l with
  | nil => exact .nil
  | cons a l ih => exact .cons (.int _) ih
def wLstR (t : WE) : WF := fun env b P => t env b fun d b1 => ∃ n : Nat, d = .int (n : Int) ∧ n ≤ 1000 ∧ P (rngD 0 n) b1
theorem f_listR {X : Cx} {a : Expr} {ta : WE} {p p2 pos pos2 : Pos} (hc : X.calm = true) (hg : Gl X "list") (hm : X.mg "list" = none) (hg2 : Gl X "range") (hm2 : X.mg "range" = none) (ha : EB X a ta)
    (na : starEach [.Call (.Name "range" p2) [a] [] pos2] X.env = (false, eval (.Call (.Name "range" p2) [a] [] pos2) X.env) :: starEach [] X.env := by rfl) (na2 : starEach [a] X.env = (false, eval a X.env) :: starEach [] X.env := by rfl) :
    EF X (.Call (.Name "list" p) [.Call (.Name "range" p2) [a] [] pos2] [] pos) (wLstR ta) := PE.imp (pe_listRg hc hg hm (prg_1 hg2 hm2 ha na2) na) fun σ H Q ⟨pn, F, env, b, P, rep, t, k⟩ => by
  refine ⟨pn, F, env, b, _, rep, t, fun v x F1 H1 b1 o1 e1 bv ⟨n, ex, hn, pz⟩ => ?_⟩
  subst ex
  obtain rfl := bv.int
  refine ⟨n, rfl, RgOk.of_le (by omega) (by omega) (by omega) (by omega), fun q hq => ?_⟩
  have ap := o1.pen.apartN hq
  exact k (.ref q) (rngD 0 n) F1 _ b1 (o1.own hq) (e1.trans (Ext.own hq)) ⟨q, _, rfl, o1.free hq, ap.1, ap.2, upd_same, rvs_rng n⟩ (fun a' e => by cases e; exact e1.back rep.ok o1 hq) pz
end Pu
namespace Pu
open PySem PySem.Spec PyProof.Rows L2 SeqAt PuS
def pSum : P1
  | .list xs, P => ∃ ns : List Int, xs = ns.map .int ∧ P (.int ns.sum)
  | _, _ => False
theorem c_sum {X : Cx} : Cl1 X.K (rSum X.K) pSum := by
  intro pn b F H v x P Q o bv q k
  match x, q with
  | .list xs, q =>
    obtain ⟨ns, e, q⟩ := q
    subst e
    obtain ⟨a, vs, rfl, h1, r1⟩ := bv.list o
    exact ⟨a, ns, rfl, by rw [← rvs_ints r1]; exact SqL.of h1, k _ _ F H o .refl (.int _) q⟩
theorem m_sum {ta : WE} {env : En} {n : Nat} {Q : PyData → Nat → Prop} (h : ME ta env n fun x m => ∃ ns : List Int, x = .list (ns.map .int) ∧ Q (.int ns.sum) m) : ME (w1 pSum ta) env n Q :=
  fun b P hb k => h b _ hb fun x m b1 ⟨ns, e, q⟩ hb1 => by subst e; exact ⟨ns, rfl, k _ m b1 q hb1⟩
def keysOf (ks : List (List Int)) : List (List Int) := ks.foldl (fun acc k => if k ∈ acc then acc else acc ++ [k]) []
theorem keysOf_snoc (ks : List (List Int)) (k : List Int) : keysOf (ks ++ [k]) = if k ∈ keysOf ks then keysOf ks else keysOf ks ++ [k] := by
  unfold keysOf
  rw [List.foldl_append]
  rfl
theorem keysOf_mem {ks : List (List Int)} {k : List Int} : k ∈ keysOf ks ↔ k ∈ ks := by
  induction ks using snoc_ind with
  | h0 => exact Iff.rfl
  | h1 l a ih =>
    rw [keysOf_snoc]
    by_cases h : a ∈ keysOf l
    · rw [if_pos h, ih]
      simp only [List.mem_append, List.mem_singleton]
      refine ⟨.inl, fun z => z.elim id fun e => ?_⟩
      rw [e]
      rw [e] at ih
      exact ih.mp h
    · rw [if_neg h]
      simp only [List.mem_append, List.mem_singleton, ih]
theorem keysOf_nodup (ks : List (List Int)) : (keysOf ks).Nodup := by
  induction ks using snoc_ind with
  | h0 => exact List.nodup_nil
  | h1 l a ih =>
    rw [keysOf_snoc]
    split
    · exact ih
    · rename_i h
      rw [List.nodup_append]
      refine ⟨ih, by simp, fun x hx y hy e => h ?_⟩
      rw [List.mem_singleton.mp hy] at e
      exact e ▸ hx
abbrev Gp := List Int × PyData
def gD (p : Gp) : PyData := .tuple [tI p.1, p.2]
def rowsAt (ps : List Gp) (k : List Int) : List PyData := (ps.filter fun p => decide (p.1 = k)).map (·.2)
theorem rowsAt_hit (ps : List Gp) (p : Gp) : rowsAt (ps ++ [p]) p.1 = rowsAt ps p.1 ++ [p.2] := by
  unfold rowsAt
  rw [List.filter_append, List.map_append, List.filter_cons_of_pos (by simp)]
  rfl
theorem rowsAt_miss (ps : List Gp) (p : Gp) {k : List Int} (h : p.1 ≠ k) : rowsAt (ps ++ [p]) k = rowsAt ps k := by
  unfold rowsAt
  rw [List.filter_append, List.filter_cons_of_neg (by simp [h])]
  simp
theorem rowsAt_new {ps : List Gp} {k : List Int} (h : k ∉ ps.map (·.1)) : rowsAt ps k = [] := by
  unfold rowsAt
  rw [List.filter_eq_nil_iff.mpr fun p hp z => h (List.mem_map.mpr ⟨p, hp, of_decide_eq_true z⟩)]
  rfl
theorem atKey_some {xs : List Ent} {k : List Key} {q : Addr × Value} (h : atKey xs k = some q) : ∃ m : Nat, xs[m]? = some (k, q) := by
  unfold atKey at h
  obtain ⟨x, hx, e⟩ := Option.map_eq_some_iff.mp h
  have h1 := List.mem_of_find?_eq_some hx
  have h2 := List.find?_some hx
  obtain ⟨m, hm⟩ := List.mem_iff_getElem?.mp h1
  refine ⟨m, ?_⟩
  rw [hm, ← of_decide_eq_true h2, ← e]
theorem atKey_no {xs : List Ent} {k : List Key} (h : atKey xs k = none) : ∀ x ∈ xs, x.1 ≠ k := fun x hx e => by
  unfold atKey at h
  have := List.find?_eq_none.mp (Option.map_eq_none_iff.mp h) x hx
  exact this (decide_eq_true e)
/-- the dict's entries, what the lists at them hold -/
structure GAt (K : PySem.W.Frag) (pn : Pn) (F H0 H : Hp) (xs : List Ent) (ks : List (List Int)) (ps : List Gp) : Prop where
  len : xs.length = ks.length
  at_ : ∀ (i : Nat) (x : Ent) (k : List Int), xs[i]? = some x → ks[i]? = some k → x.1 = k.map Sum.inl ∧ RV K F (.ref x.2.1) (tI k) ∧
    ∃ c vs, x.2.2 = .ref c ∧ H c = some (.lst vs) ∧ F c = none ∧ H0 c = none ∧ NotPen pn c ∧ NotCa pn c ∧ RVs K F vs (rowsAt ps k)
  dis : ∀ (i k : Nat) (x y : Ent), xs[i]? = some x → xs[k]? = some y → x.2.2 = y.2.2 → i = k
section
variable {K : PySem.W.Frag} {pn : Pn} {F H0 H F' H' : Hp} {xs : List Ent} {ks : List (List Int)} {ps : List Gp}
theorem GAt.ext (g : GAt K pn F H0 H xs ks ps) (e : Ext pn F H F' H') : GAt K pn F' H0 H' xs ks ps :=
  ⟨g.len, fun i x k h1 h2 => by
    obtain ⟨q1, q2, c, vs, q3, q4, q5, q6, q7, q8, q9⟩ := g.at_ i x k h1 h2
    obtain ⟨z1, z2⟩ := e.keep c _ q4 q5 q7
    exact ⟨q1, q2.mono e.fsub, c, vs, q3, z1, z2, q6, q7, q8, q9.mono e.fsub⟩, g.dis⟩
/-- another thing is written -/
theorem GAt.put (g : GAt K pn F H0 H xs ks ps) {a : Addr} {o : HO} (h : ∀ (x : Ent) (c : Addr) (vs : List V), x ∈ xs → x.2.2 = .ref c → H c = some (.lst vs) → c ≠ a) : GAt K pn F H0 (upd H a o) xs ks ps :=
  ⟨g.len, fun i x k h1 h2 => by
    obtain ⟨q1, q2, c, vs, q3, q4, q5⟩ := g.at_ i x k h1 h2
    exact ⟨q1, q2, c, vs, q3, by rw [upd_ne (h x c vs (List.mem_of_getElem? h1) q3 q4)]; exact q4, q5⟩, g.dis⟩
theorem GAt.keyAt (g : GAt K pn F H0 H xs ks ps) {i : Nat} {x : Ent} (h : xs[i]? = some x) : ∃ k, ks[i]? = some k := by
  have hi : i < xs.length := (List.getElem?_eq_some_iff.mp h).1
  exact ⟨_, List.getElem?_eq_getElem (by rw [← g.len]; exact hi)⟩
theorem GAt.hit (g : GAt K pn F H0 H xs ks ps) (nd : ks.Nodup) {m : Nat} {p : Gp} {x : Ent} {c : Addr} {vs : List V} {v : V} (hx : xs[m]? = some x) (hk : ks[m]? = some p.1) (hc : x.2.2 = .ref c) (hv : H c = some (.lst vs)) (rv : RV K F v p.2) :
    GAt K pn F H0 (upd H c (.lst (vs ++ [v]))) xs ks (ps ++ [p]) :=
  ⟨g.len, fun i y k h1 h2 => by
    obtain ⟨q1, q2, d, us, q3, q4, q5, q6, q7, q8, q9⟩ := g.at_ i y k h1 h2
    by_cases e : i = m
    · subst e
      rw [hx] at h1
      cases h1
      rw [hk] at h2
      cases h2
      rw [hc] at q3
      cases q3
      rw [hv] at q4
      cases q4
      refine ⟨q1, q2, c, _, hc, upd_same, q5, q6, q7, q8, ?_⟩
      rw [rowsAt_hit]
      exact q9.app (.one rv)
    · have ne : p.1 ≠ k := fun z => e (by
        have h3 : ks[i]? = some p.1 := by rw [h2, z]
        have hi := (List.getElem?_eq_some_iff.mp h3).1
        exact (List.getElem?_inj hi nd).mp (by rw [h3, hk]))
      have nc : d ≠ c := fun z => e (g.dis i m y x h1 hx (by rw [q3, hc, z]))
      refine ⟨q1, q2, d, us, q3, by rw [upd_ne nc]; exact q4, q5, q6, q7, q8, ?_⟩
      rw [rowsAt_miss ps p ne]
      exact q9, g.dis⟩
theorem GAt.new (g : GAt K pn F H0 H xs ks ps) {p : Gp} {b c : Addr} {v : V} (hn : p.1 ∉ ks) (h0 : rowsAt ps p.1 = []) (hc : ∀ (x : Ent), x ∈ xs → x.2.2 ≠ .ref c) (fc : F c = none) (h0c : H0 c = none) (np : NotPen pn c) (nc : NotCa pn c) (hv : H c = some (.lst [v])) (rk : RV K F (.ref b) (tI p.1)) (rv : RV K F v p.2) :
    GAt K pn F H0 H (xs ++ [(p.1.map Sum.inl, b, .ref c)]) (ks ++ [p.1]) (ps ++ [p]) := by
  have old : ∀ (i : Nat) (x : Ent), (xs ++ [((p.1.map Sum.inl : List Key), b, Value.ref c)])[i]? = some x → (i < xs.length ∧ xs[i]? = some x) ∨ (i = xs.length ∧ x = (p.1.map Sum.inl, b, .ref c)) := fun i x h => by
    by_cases hi : i < xs.length
    · rw [List.getElem?_append_left hi] at h
      exact .inl ⟨hi, h⟩
    · rw [List.getElem?_append_right (by omega)] at h
      obtain ⟨z, e⟩ := List.getElem?_eq_some_iff.mp h
      simp at z
      have : i = xs.length := by omega
      subst this
      simp at e
      exact .inr ⟨rfl, e.symm⟩
  refine ⟨by rw [List.length_append, List.length_append, g.len]; rfl, fun i x k h1 h2 => ?_, fun i j x y h1 h2 e => ?_⟩
  · rcases old i x h1 with ⟨hi, h1⟩ | ⟨rfl, rfl⟩
    · rw [List.getElem?_append_left (by rw [← g.len]; exact hi)] at h2
      obtain ⟨q1, q2, d, us, q3, q4, q5, q6, q7, q8, q9⟩ := g.at_ i x k h1 h2
      refine ⟨q1, q2, d, us, q3, q4, q5, q6, q7, q8, ?_⟩
      rw [rowsAt_miss ps p fun z => hn (by rw [z]; exact List.mem_of_getElem? h2)]
      exact q9
    · rw [g.len, List.getElem?_append_right (Nat.le_refl _)] at h2
      simp at h2
      subst h2
      refine ⟨rfl, rk, c, [v], rfl, hv, fc, h0c, np, nc, ?_⟩
      rw [rowsAt_hit, h0]
      exact .one rv
  · rcases old i x h1 with ⟨hi, g1⟩ | ⟨rfl, rfl⟩ <;> rcases old j y h2 with ⟨hj, g2⟩ | ⟨rfl, rfl⟩
    · exact g.dis i j x y g1 g2 e
    · exact absurd e (hc x (List.mem_of_getElem? g1))
    · exact absurd e.symm (hc y (List.mem_of_getElem? g2))
    · rfl
theorem GAt.fsts (g : GAt K pn F H0 H xs ks ps) : xs.map (·.1) = ks.map fun k => k.map Sum.inl := by
  apply List.ext_getElem?
  intro i
  rw [List.getElem?_map, List.getElem?_map]
  cases h : xs[i]? with
  | none =>
    have : ks[i]? = none := by
      rw [List.getElem?_eq_none_iff] at h ⊢
      rw [← g.len]; exact h
    rw [this]; rfl
  | some x =>
    obtain ⟨k, hk⟩ := g.keyAt h
    rw [hk]
    exact congrArg some (g.at_ i x k h hk).1
theorem GAt.nodup (g : GAt K pn F H0 H xs ks ps) (nd : ks.Nodup) : (xs.map (·.1)).Nodup := by
  rw [g.fsts]
  exact nd.map _ fun a c n z => n (inl_inj z)
end
/-- no list of one's own in any slot -/
def plainE (env : En) : Prop := ∀ (i : Nat) (s : Sl), env[i]? = some (some s) → ∃ x, s = .d x
theorem plainE.set {env : En} (h : plainE env) {i : Nat} {x : PyData} : plainE (env.set i (some (.d x))) := fun j s e => by
  by_cases z : j = i
  · subst z
    have hl : j < env.length := by have := (List.getElem?_eq_some_iff.mp e).1; simpa using this
    rw [List.getElem?_set_self hl] at e
    cases e
    exact ⟨x, rfl⟩
  · rw [List.getElem?_set_ne (Ne.symm z)] at e
    exact h j s e
theorem plainE.setN {env : En} (h : plainE env) {i : Nat} : plainE (env.set i none) := fun j s e => by
  by_cases z : j = i
  · subst z
    have hl : j < env.length := by have := (List.getElem?_eq_some_iff.mp e).1; simpa using this
    rw [List.getElem?_set_self hl] at e
    cases e
  · rw [List.getElem?_set_ne (Ne.symm z)] at e
    exact h j s e
section
variable {K : PySem.W.Frag} {pn : Pn} {b : Nat} {F0 H0 F H : Hp} {σ : L2.St} {env : En} {a : Addr} {us vs : List V}
theorem RepS.chgL (r : RepS K pn F0 H0 F H σ env b) (pl : plainE env) (h : H a = some (.lst us)) (f : F a = none) (h0 : H0 a = none) (np : NotPen pn a) (nc : NotCa pn a) : RepS K pn F0 H0 F (upd H a (.lst vs)) σ env b := by
  refine ⟨⟨⟨fun c o q => ?_, r.rep.ok.pen.wr np nc⟩, r.rep.len, fun i s hi => ?_, r.rep.apart, r.rep.tk⟩, ⟨r.ext.fsub, fun c o hc fc p => ?_⟩, r.own⟩
  · rw [upd_ne (fun z => by rw [z, f] at q; cases q)]; exact r.rep.ok.sub c o q
  · obtain ⟨v, hv, sl⟩ := r.rep.slot i s hi
    obtain ⟨x, rfl⟩ := pl i s hi
    exact ⟨v, hv, sl⟩
  · obtain ⟨q1, q2⟩ := r.ext.keep c o hc fc p
    exact ⟨by rw [upd_ne (fun z => by rw [z, h0] at hc; cases hc)]; exact q1, q2⟩
/-- many lists of one's own are settled at once -/
def setlF (F H : Hp) (cs : List Addr) : Hp := fun z => match F z with
  | some o => some o
  | none => if z ∈ cs then H z else none
theorem setlF_same (cs : List Addr) : Same F (setlF F H cs) := fun z o e => by unfold setlF; rw [e]
theorem setlF_in {cs : List Addr} (f : F a = none) (h : a ∈ cs) : setlF F H cs a = H a := by unfold setlF; rw [f]; exact if_pos h
theorem setlF_out {cs : List Addr} (f : F a = none) (h : a ∉ cs) : setlF F H cs a = none := by unfold setlF; rw [f]; exact if_neg h
theorem Ok.settleAll (k : Ok pn b F H) {cs : List Addr} (np : ∀ c ∈ cs, NotPen pn c ∧ NotCa pn c) : Ok pn b (setlF F H cs) H := by
  refine ⟨fun z o e => ?_, ?_⟩
  · unfold setlF at e
    cases f : F z with
    | some u => rw [f] at e; cases e; exact k.sub z _ f
    | none =>
      rw [f] at e
      have e : (if z ∈ cs then H z else none) = some o := e
      split at e
      · exact e
      · cases e
  · have kp := k.pen
    match pn, kp, np with
    | none, _, _ => trivial
    | some q, ⟨f1, f2, ne, tb, cells, at_, cur, h1, h2, i⟩, np =>
      refine ⟨setlF_out f1 fun z => ((np _ z).1 q rfl).1 rfl, setlF_out f2 fun z => (np _ z).2 q rfl rfl, ne, tb.to (setlF_same cs) fun t ht => ⟨setlF_out (tb t ht).1 fun z => ((np _ z).1 q rfl).2 t ht rfl, rfl⟩, cells, at_, cur, h1, h2, i⟩
theorem Ext.settleAll (x : Ext pn F0 H0 F H) {cs : List Addr} (h0 : ∀ c ∈ cs, H0 c = none) : Ext pn F0 H0 (setlF F H cs) H :=
  ⟨x.fsub.trans (setlF_same cs), fun z o hz f n => by
    obtain ⟨q1, q2⟩ := x.keep z o hz f n
    exact ⟨q1, setlF_out q2 fun q => by rw [h0 z q] at hz; cases hz⟩⟩
end
/-- the dict at a, its keys -/
structure KAt (K : PySem.W.Frag) (F : Hp) (xs : List Ent) (ks : List (List Int)) : Prop where
  len : xs.length = ks.length
  at_ : ∀ (i : Nat) (x : Ent) (k : List Int), xs[i]? = some x → ks[i]? = some k → RV K F (.ref x.2.1) (tI k)
def tGSort (K : PySem.W.Frag) (P : Program) (w : World) (j : Nat) : TE := fun σ H Q => ∃ (pn : Pn) (F : Hp) (b : Nat) (a : Addr) (xs : List Ent) (ks : List (List Int)), Ok pn b F H ∧ σ[j]? = some (some (.ref a)) ∧ H a = some (DOwn P w a xs) ∧ KAt K F xs ks ∧
  W.AllAlike (ks.map tI) ∧ W.Sortable (ks.map tI) ∧ ks.length ≤ 100000 ∧ (∀ d ∈ ks.map tI, d.depth ≤ 40) ∧
  ∀ v F' H', Ok pn b F' H' → Ext pn F H F' H' → OwnL K pn F' H' v (srt (ks.map tI)) → (∀ a, v = .ref a → H a = none) → Q v H'
section
variable {X : Cx} {j : Nat} {e : Expr} {p pos : Pos}
theorem pe_gsort (hu : X.A.units + 64 < cLine) (hc : X.calm = true) (hg : Gl X "sorted") (hm : X.mg "sorted" = none) (ha : PE X e (tVar j)) (na : starEach [e] X.env = (false, eval e X.env) :: starEach [] X.env := by rfl) :
    PE X (.Call (.Name "sorted" p) [e] [] pos) (tGSort X.K X.prog X.w j) := by
  refine ⟨fun pins s σ H Q I h => ?_⟩
  obtain ⟨pn, F, b, a, xs, ks, o1, hσ, hd, ka, al, so, ln, dp, kk⟩ := h
  refine Call_ (ld_blt I hg hm boot_sorted2 ?_)
  refine PyProof.Rows.callWith_builtin1 (PyProof.Rows.args_cons (thn (ha.run pins s σ H (fun v H1 => v = .ref a ∧ H1 = H) I ⟨.ref a, hσ, rfl, rfl⟩) fun v s1 ⟨x, H1, I1, r1, q1⟩ => PyProof.Rows.args_nil ?_) na) na rfl
  obtain ⟨rfl, rfl⟩ := q1
  obtain rfl : v = Value.ref a := r1
  obtain ⟨hs0, ob, es, ep, ho, hx, hdat, hes, _⟩ := dOwn_at I1 hd
  have hraw : s1.heap.DictRaw a es ep := ⟨ob, ho, hx, hdat⟩
  have lk : es.size = xs.length := by rw [← Array.length_toList, hes, List.length_map]
  have lz : (ks.map tI).length ≤ sizeLine := by rw [List.length_map, sizeLine_eq]; omega
  have lz2 : es.size ≤ sizeLine := by rw [lk, ka.len]; simpa using lz
  refine sortedD (ds := ks.map tI) (R0 := Stands X.K F) (fun u y ⟨w, rw_, rd⟩ => let ⟨as, ra, _⟩ := reads_of I1 o1.sub rd rw_; ⟨as, ra⟩) al so lz (fun y hy => by have := dp y hy; omega) (fun R hR => ?_) (args_sorted1 _) fun s2 s3 p out c k1 g1 z1 k2 g2 z2 hp ha2 ho => ?_
  · refine PySem.W.kdu_collect (KdlSrc.rawDict (es := es) (ep := ep) hs0) (by have := I1.ok.hd hc; simpa using this) hraw lz2 fun h' tk acc hk hi => hR _ _ hk rfl rfl ?_
    refine each_at (by rw [Array.length_toList, hi.1, lk, ka.len, List.length_map]) fun i u d e1 e2 => ?_
    rw [Array.getElem?_toList] at e1
    obtain ⟨hi2, eu⟩ := hi.2 i u e1
    rw [List.getElem?_map] at e2
    obtain ⟨k, hk2, rfl⟩ := Option.map_eq_some_iff.mp e2
    have hx2 : i < xs.length := by omega
    have r := ka.at_ i xs[i] k (List.getElem?_eq_getElem hx2) hk2
    have : es.toList[i]? = some (entryOfKey (tupleKind (mixKind X.prog X.w)) xs[i]) := by rw [hes, List.getElem?_map, List.getElem?_eq_getElem hx2]; rfl
    rw [Array.getElem?_toList, Array.getElem?_eq_getElem hi2] at this
    have e3 : es[i].key = .ref xs[i].2.1 := by rw [Option.some.inj this]; rfl
    exact ⟨.ref xs[i].2.1, by rw [eu, e3]; exact rfl, r⟩
  · obtain ⟨ws, hv, hr⟩ := of_stands ho
    have hok2 : HOk X.prog X.w H1 s2.heap := I1.hok.kept k1
    have hn : H1 p = none := hok2.fresh hp
    have lw : ws.length ≤ sizeLine := by
      rw [hr.len]
      show ((ks.map tI).mergeSort _).length ≤ sizeLine
      rw [List.length_mergeSort]
      exact lz
    have J : Inv X pins σ (upd H1 p (.lst ws)) s3 := I1.call' (ch := []) (z2.trans z1) (Un.trans (Un.kept k1) (Un.laid k2 hp hn)) (hok2.laid k2 hp ⟨lw, out.toList, c, hv, ha2⟩) (by rw [g2, g1]; exact I1.bare) (fun _ z => nomatch z)
    have ap := o1.pen.apartN hn
    exact ⟨.ref p, _, J, rfl, kk (.ref p) F _ (o1.own hn) (.own hn) ⟨p, ws, rfl, o1.free hn, ap.1, ap.2, upd_same, hr⟩ (fun a' ea => by cases ea; exact hn)⟩
/-- groups[g] -/
def tGetT (K : PySem.W.Frag) (P : Program) (w : World) (td ty : TE) : TE := fun σ H Q => td σ H fun x H1 => ∃ a, x = .ref a ∧ ty σ H1 fun y H2 => ∃ (xs : List Ent) (b : Addr) (k : List Key) (q : Addr) (c : Addr),
  H2 a = some (DOwn P w a xs) ∧ y = .ref b ∧ SqT K H2 b (k.map kV) ∧ (∀ x ∈ xs, SqT K H2 x.2.1 (x.1.map kV)) ∧ atKey xs k = some (q, .ref c) ∧ Q (.ref c) H2
theorem pe_getT {o i : Expr} {td ty : TE} (hu : X.A.units + 64 < cLine) (ho : PE X o td) (hi : PE X i ty) (hs : NoSl i) : PE X (.Subscript o i pos) (tGetT X.K X.prog X.w td ty) := by
  refine ⟨fun pins s σ H Q I h => ?_⟩
  refine subD_of PySem.F.slot_dict_getitem.lookup hs (thn (ho.run pins s σ H _ I h) fun u s1 ⟨x, H1, I1, rx, a, ex, q1⟩ => thn (hi.run pins s1 σ H1 _ I1 q1) fun iv s2 ⟨y, H2, I2, ry, xs, b, k, q, c, hd, ey, eb, ek, hat, q2⟩ => ?_)
  subst ex ey
  obtain rfl : u = Value.ref a := rx
  obtain rfl : iv = Value.ref b := ry
  obtain ⟨hs0, ob, es, ep, h1, h2, h3, h4, h5⟩ := dOwn_at I2 hd
  have dd : s2.heap.DictOfH (tupleKind (mixKind X.prog X.w)) a xs := ⟨ob, es, ep, h1, h2, h3, h4, fun x hx => keyT_of I2 (ek x hx), h5⟩
  refine ⟨⟨ob, h1, h2.1⟩, wpAny_getItem_heap (tupleKind_room_in1 (by omega)) (keyT_of I2 eb) dd hat ?_⟩
  exact ⟨.ref c, H2, I2.tok _, rfl, q2⟩
end
end Pu
namespace Pu
open PySem PySem.Spec PyProof.Rows L2 SeqAt PuS
/-- f called for each group -/
def wGrp (f : WD) (x y : PyData) : List (List Int × List PyData) → Nat → List PyData → (List PyData → Nat → Prop) → Prop
  | [], b, acc, P => P acc b
  | g :: gs, b, acc, P => f [.d x, .d y, .d (tI g.1), .d (.list g.2)] b fun z b1 => wGrp f x y gs b1 (acc ++ [z]) P
def sGroup (ti : WI) (j i1 i2 ik is ig : Nat) (f : WD) : WS := fun PD env b => (j < env.length ∧ i1 < env.length ∧ i2 < env.length ∧ ig < env.length) ∧ plainE env ∧ ti (env.set j none) b fun items b1 => items.length ≤ 1000 ∧
  ∃ (ps : List Gp) (x y : PyData) (gk : List (List Int)), items = ps.map gD ∧ env[ik]? = some (some (.d x)) ∧ env[is]? = some (some (.d y)) ∧ W.AllAlike ((keysOf (ps.map (·.1))).map tI) ∧ W.Sortable ((keysOf (ps.map (·.1))).map tI) ∧
    srt ((keysOf (ps.map (·.1))).map tI) = gk.map tI ∧ (∀ k ∈ gk, k ∈ ps.map (·.1)) ∧ wGrp f x y (gk.map fun k => (k, rowsAt ps k)) b1 [] fun ds b2 => PD.rt (.list ds) b2
theorem setAll2 {i1 i2 : Nat} {x y : PyData} {env : En} : setAll [i1, i2] [x, y] env = (env.set i1 (some (.d x))).set i2 (some (.d y)) := rfl
theorem tI_depth (k : List Int) : (tI k).depth ≤ 40 := by
  have : PyData.depthAll (k.map PyData.int) = 0 := by
    induction k with
    | nil => rfl
    | cons a r ih => simp [PyData.depthAll, PyData.depth, ih]
  simp [tI, PyData.depth, this]
section
variable {X : Cx} {j i1 i2 ik is ig : Nat} {st1 : Stmt} {tg iter ef eg ew tg2 isort elt : Expr} {ti : WI} {f : WD} {apos cpos lp apos2 cpos2 pe pos lpos rpos : Pos} {scope : Scope} {own : List (Str × Nat)} {E : XK}
theorem sb_group {iw : Bool} (hu : X.A.units + 64 < cLine) (hp : PassesOwn (model X.prog X.w) X.A X.env X.xe) (hc : X.calm = true) (hN : X.N.Nodup) (h1 : PS X st1 (tAsg (tOwnD X.prog X.w) (gName j))) (hi : PI X tg iter (lI X.K false iw ti)) (hg : PGt X tg (.tp [i1, i2]))
    (hf : PE X ef (tVar j)) (he1 : PE X eg (tVar i1)) (he2 : PE X ew (tVar i2)) (m : M2 X ef "setdefault" apos eg (.List [] lp) cpos)
    (hso : PE X isort (tGSort X.K X.prog X.w j)) (ok : BlkOk X.N X.env.scope scope own) (ho : own.map (·.2) = [ig])
    (hg2 : ∀ (s : Shared) (H : Hp) (C : Addr) (cl : List (Str × Addr)) (fp : List Addr), PG (X.blk s H scope (compEnvC scope cl C X.env) fp) tg2 (gName ig))
    (hel : ∀ (s : Shared) (H : Hp) (C : Addr) (cl : List (Str × Addr)) (fp : List Addr), PE (X.blk s H scope (compEnvC scope cl C X.env) fp) elt (tCall (spW X.K f) [] E (tCons (tVar ik) (tCons (tVar is) (tCons (tVar ig) (tCons (tGetT X.K X.prog X.w (tVar j) (tVar ig)) tNil))))))
    (n1 : j ≠ i1) (n2 : j ≠ i2) (n3 : i1 ≠ i2) (n4 : ik ≠ j) (n5 : ik ≠ i1) (n6 : ik ≠ i2) (n7 : is ≠ j) (n8 : is ≠ i1) (n9 : is ≠ i2) (m1 : ig ≠ j) (m2 : ig ≠ ik) (m3 : ig ≠ is)
    (hb : attributeBase (.Call (.Attribute ef "setdefault" apos) [eg, .List [] lp] [] cpos) "append" X.env (eval (.Call (.Attribute ef "setdefault" apos) [eg, .List [] lp] [] cpos) X.env) = eval (.Call (.Attribute ef "setdefault" apos) [eg, .List [] lp] [] cpos) X.env := by rfl)
    (hfew : ((backTo cpos2 (starEach [ew] X.env)).all (fun x => !x.1) && (backToKw cpos2 (keywordEach [] X.env)).all (fun x => x.1.isSome) && decide ([ew].length + ([] : List Keyword).length + (if ([] : List Keyword).isEmpty then 0 else 1) < 30)) = true := by rfl)
    (hl : (apos2.endLine == cpos2.line) = true := by rfl) (hs : starEach [ew] X.env = (false, eval ew X.env) :: starEach [] X.env := by rfl) (hpl : (backTo cpos2 (starEach [] X.env)).any (·.1) = false := by rfl)
    (hw : swapsWith (.Call (.Attribute (.Call (.Attribute ef "setdefault" apos) [eg, .List [] lp] [] cpos) "append" apos2) [ew] [] cpos2) none pe.line X.env = pure false := by rfl)
    (hsI : ∀ x, foldedSetIterable iter X.env x = pure x := by intro _; rfl) (hsS : ∀ x, foldedSetIterable isort X.env x = pure x := by intro _; rfl) :
    SB X [st1, .For tg iter [.Expr (.Call (.Attribute (.Call (.Attribute ef "setdefault" apos) [eg, .List [] lp] [] cpos) "append" apos2) [ew] [] cpos2) pe] [] pos, .Return (some (.ListComp elt [⟨tg2, isort, [], 0⟩] scope lpos)) rpos] (sGroup ti j i1 i2 ik is ig f) :=
  PSs.imp (pss_cons h1 (pss_cons (ps_for hp hc hi hg (pss_one (ps_expr (pe_bm PySem.F.plainAttrs_list PySem.F.slot_list_append PySem.F.type_list_append mt_append (pe_setdT (by omega) hf he1 (pe_lst pa_nil) m) (pa_cons he2 pa_nil hs) hb hfew hl hs hpl) hw)) hsI)
    (pss_one (ps_ret (pe_lc hc hN (i_any hso) ok hg2 (fun _ _ _ _ _ => pts_nil) hel hsS)))))
    fun D σ H ⟨pn, F0, H0, F, env, b, PD, rep, ⟨⟨hj, hi1, hi2, hig0⟩, pl, t⟩, k, r⟩ => by
  intro a ha
  have fa := rep.rep.ok.free ha
  have h0a : H0 a = none := (rep.fresh (v := .ref a) (fun c e => by cases e; exact ha) a rfl).1
  have rep1 : RepS X.K pn F0 H0 F (upd H a (DOwn X.prog X.w a [])) (σ.set j (some (.ref a))) (env.set j none) b := (rep.ext' (rep.rep.ok.own ha) (.own ha)).setN
  have lσ : j < σ.length := by rw [rep.rep.len]; exact hj
  show tSeq _ _ D (σ.set j (some (.ref a))) (upd H a (DOwn X.prog X.w a []))
  refine ⟨pn, F, env.set j none, b, _, rep1.rep, t, fun items F1 H1 b1 J o1 x1 it ⟨few, ps, x, y, gk, ei, ekx, eky, al, so, esr, gkin, wk⟩ => ?_⟩
  have np0 := rep1.rep.ok.pen.apart (upd_same (H := H) (a := a) (o := DOwn X.prog X.w a []))
  obtain ⟨ha1, fa1⟩ := x1.keep a _ upd_same fa np0.1
  have lk : ps.length = items.length := by rw [ei, List.length_map]
  have ltk : ∀ i : Nat, (keysOf ((ps.take i).map (fun p : Gp => p.1))).length ≤ i := fun i => by
    have : ∀ l : List (List Int), (keysOf l).length ≤ l.length := fun l => by
      induction l using snoc_ind with
      | h0 => exact Nat.le_refl _
      | h1 l a ih =>
        rw [keysOf_snoc]
        split
        · rw [List.length_append]; omega
        · rw [List.length_append, List.length_append]; simp; exact ih
    refine Nat.le_trans (this _) ?_
    rw [List.length_map, List.length_take]
    omega
  refine ⟨fun i m σ H => ∃ F env xs, RepS X.K pn F0 H0 F H σ env b1 ∧ Same F1 F ∧ i + m = items.length ∧ plainE env ∧ env[j]? = some none ∧ σ[j]? = some (some (.ref a)) ∧ (i1 < env.length ∧ i2 < env.length ∧ ig < env.length) ∧ env[ik]? = some (some (.d x)) ∧ env[is]? = some (some (.d y)) ∧ H a = some (DOwn X.prog X.w a xs) ∧ F a = none ∧
      GAt X.K pn F H0 H xs (keysOf ((ps.take i).map (·.1))) (ps.take i),
    ⟨items.length, F1, env.set j none, [], rep1.ext' o1 x1, Same.refl _, by omega, pl.setN, List.getElem?_set_self hj, List.getElem?_set_self lσ, ⟨by rw [List.length_set]; exact hi1, by rw [List.length_set]; exact hi2, by rw [List.length_set]; exact hig0⟩, by rw [List.getElem?_set_ne (Ne.symm n4)]; exact ekx, by rw [List.getElem?_set_ne (Ne.symm n7)]; exact eky, ha1, fa1,
      ⟨rfl, fun i x k h => by simp at h, fun i k x y h => by simp at h⟩⟩, fun i m σ H hW => ?_⟩
  obtain ⟨F2, env2, xs, rep2, sm, em, pl2, ej, sj, ⟨l1, l2, l3⟩, kx, ky, ha2, fa2, ga⟩ := hW
  obtain ⟨go, stop, yld⟩ := it i F2 H b1 rep2.rep.ok sm
  by_cases hi : i < items.length
  · refine .inr ⟨go hi, fun σ' H' => ∃ F env xs, RepS X.K pn F0 H0 F H' σ' env b1 ∧ Same F1 F ∧ plainE env ∧ env[j]? = some none ∧ σ'[j]? = some (some (.ref a)) ∧ (i1 < env.length ∧ i2 < env.length ∧ ig < env.length) ∧ env[ik]? = some (some (.d x)) ∧ env[is]? = some (some (.d y)) ∧ H' a = some (DOwn X.prog X.w a xs) ∧ F a = none ∧
        GAt X.K pn F H0 H' xs (keysOf ((ps.take (i + 1)).map (·.1))) (ps.take (i + 1)), fun σ' H' hN => ?_, fun u H' hy => ?_⟩
    · obtain ⟨F', env', xs', q1, q2, q3⟩ := hN
      exact ⟨m - 1, by omega, F', env', xs', q1, q2, by omega, q3⟩
    · obtain ⟨F', d, hd, rv, o', x'⟩ := yld u H' hy hi
      have hik : i < ps.length := by omega
      have etk : ps.take (i + 1) = ps.take i ++ [ps[i]] := (List.take_append_getElem hik).symm
      rw [etk]
      generalize hp' : ps[i] = p at *
      have ed : d = gD p := by
        rw [ei, List.getElem?_map, List.getElem?_eq_getElem hik, hp'] at hd
        exact (Option.some.inj hd).symm
      subst ed
      rw [List.map_append, List.map_cons, List.map_nil, keysOf_snoc]
      have nd := keysOf_nodup ((ps.take i).map (·.1))
      have lks := ltk i
      have lpre : (ps.take i).length ≤ i := by rw [List.length_take]; omega
      have kin : p.1 ∈ keysOf ((ps.take i).map (·.1)) ↔ p.1 ∈ (ps.take i).map (·.1) := keysOf_mem
      generalize keysOf ((ps.take i).map (·.1)) = kz at *
      generalize ps.take i = pre at *
      obtain ⟨np2, _⟩ := rep2.rep.ok.pen.apart ha2
      obtain ⟨ha3, fa3⟩ := x'.keep a _ ha2 fa2 np2
      have rep3 := rep2.ext' o' x'
      have s3 := sm.trans x'.fsub
      have ga3 := ga.ext x'
      refine gT_run (F0 := F0) (H0 := H0) (env := env2) (env' := setAll [i1, i2] [tI p.1, p.2] env2) o' rv (.inr ⟨_, rfl⟩) rfl fun vs c1 _ => ?_
      have rep4 := c1 rep3
      have sj4 : (sT (.tp [i1, i2]) u vs σ)[j]? = some (some (.ref a)) := by
        show (vsAll [i1, i2] vs σ)[j]? = _
        rw [vsAll_ne (by simp [n1, n2])]
        exact sj
      generalize hσ : sT (.tp [i1, i2]) u vs σ = σ4 at rep4 sj4
      have pl4 : plainE (setAll [i1, i2] [tI p.1, p.2] env2) := pl2.set.set
      have kx4 : (setAll [i1, i2] [tI p.1, p.2] env2)[ik]? = some (some (.d x)) := by rw [setAll2, List.getElem?_set_ne (Ne.symm n6), List.getElem?_set_ne (Ne.symm n5)]; exact kx
      have ky4 : (setAll [i1, i2] [tI p.1, p.2] env2)[is]? = some (some (.d y)) := by rw [setAll2, List.getElem?_set_ne (Ne.symm n9), List.getElem?_set_ne (Ne.symm n8)]; exact ky
      obtain ⟨v1, s1, r1⟩ := rep4.rep.slot i1 (.d (tI p.1)) (by rw [setAll2, List.getElem?_set_ne (Ne.symm n3), List.getElem?_set_self l1])
      obtain ⟨v2, s2, r2⟩ := rep4.rep.slot i2 (.d p.2) (by rw [setAll2, List.getElem?_set_self (by rw [List.length_set]; exact l2)])
      obtain ⟨g, eg, tg⟩ := tI_vals r1
      subst eg
      have ej4 : (setAll [i1, i2] [tI p.1, p.2] env2)[j]? = some none := by
        rw [setAll2, List.getElem?_set_ne (Ne.symm n2), List.getElem?_set_ne (Ne.symm n1)]
        exact ej
      have ll : i1 < (setAll [i1, i2] [tI p.1, p.2] env2).length ∧ i2 < (setAll [i1, i2] [tI p.1, p.2] env2).length ∧ ig < (setAll [i1, i2] [tI p.1, p.2] env2).length := by
        rw [setAll2, List.length_set, List.length_set]
        exact ⟨l1, l2, l3⟩
      have lx : xs.length < sizeLine := by
        have := ga3.len
        rw [sizeLine_eq]
        omega
      refine ⟨.ref a, sj4, a, xs, rfl, ha3, .ref g, s1, Nat.zero_le _, fun c hc => ?_⟩
      have o5 : Ok pn b1 F' (upd H' c (.lst [])) := o'.own hc
      have x5 : Ext pn F' H' F' (upd H' c (.lst [])) := .own hc
      have rep5 := rep4.ext' o5 x5
      have ga5 := ga3.ext x5
      have nac : a ≠ c := fun z => by rw [z, hc] at ha3; cases ha3
      have ha5 : (upd H' c (.lst [])) a = some (DOwn X.prog X.w a xs) := by rw [upd_ne nac]; exact ha3
      have hc5 : (upd H' c (HO.lst [])) c = some (.lst []) := upd_same
      have apc := o'.pen.apartN hc
      have fc : F' c = none := o'.free hc
      have h0c : H0 c = none := rep4.ext.bk o' hc
      have ncx : ∀ z : Ent, z ∈ xs → z.2.2 ≠ .ref c := fun z hz e => by
        obtain ⟨n, hn⟩ := List.mem_iff_getElem?.mp hz
        obtain ⟨kk, hkk⟩ := ga3.keyAt hn
        obtain ⟨_, _, c', us, q3, q4, _⟩ := ga3.at_ n z kk hn hkk
        rw [q3] at e
        cases e
        rw [hc] at q4
        cases q4
      refine ⟨xs, g, c, p.1.map Sum.inl, ha5, rfl, rfl, ?_, fun z hz => ?_, lx, fun q hq => ?_, fun hn => ?_⟩
      · rw [kV_inl]
        exact Same.tup o5.sub tg
      · obtain ⟨n, hn⟩ := List.mem_iff_getElem?.mp hz
        obtain ⟨kk, hkk⟩ := ga5.keyAt hn
        obtain ⟨q1, q2, _⟩ := ga5.at_ n z kk hn hkk
        obtain ⟨b', eb, tb⟩ := tI_vals q2
        cases eb
        rw [q1, kV_inl]
        exact Same.tup o5.sub tb
      · -- there
        obtain ⟨n, hn⟩ := atKey_some hq
        obtain ⟨kk, hkk⟩ := ga5.keyAt hn
        obtain ⟨q1, q2, c', us, q3, q4, q5, q6, q7, q8, q9⟩ := ga5.at_ n _ kk hn hkk
        have ek : p.1 = kk := inl_inj q1
        subst ek
        have q3 : q.2 = .ref c' := q3
        have lus : us.length < sizeLine := by
          have : (rowsAt pre p.1).length ≤ pre.length := by
            unfold rowsAt
            rw [List.length_map]
            exact List.length_filter_le _ _
          rw [q9.len, sizeLine_eq]
          omega
        refine ⟨c', q3, .inl ⟨rfl, us, SqL.of q4⟩, v2, s2, c', us, v2, rfl, rfl, q4, lus, ?_⟩
        rw [if_pos (List.mem_of_getElem? hkk)]
        have nca : a ≠ c' := fun z => by rw [← z, ha5] at q4; cases q4
        exact ⟨F', _, xs, rep5.chgL pl4 q4 q5 q6 q7 q8, s3, pl4, ej4, sj4, ll, kx4, ky4, by rw [upd_ne nca]; exact ha5, fa3, ga5.hit nd hn hkk q3 q4 r2⟩
      · -- not there
        have hnk : p.1 ∉ kz := fun z => by
          obtain ⟨n, hn'⟩ := List.mem_iff_getElem?.mp z
          have hl' : n < xs.length := by rw [ga5.len]; exact (List.getElem?_eq_some_iff.mp hn').1
          exact atKey_no hn xs[n] (List.getElem_mem hl') (ga5.at_ n _ _ (List.getElem?_eq_getElem hl') hn').1
        have hc6 : (upd (upd H' c (.lst [])) a (DOwn X.prog X.w a (xs ++ [(p.1.map Sum.inl, g, .ref c)]))) c = some (.lst []) := by rw [upd_ne (Ne.symm nac)]; exact hc5
        refine ⟨.inl ⟨rfl, [], SqL.of hc6⟩, v2, s2, c, [], v2, rfl, rfl, hc6, by rw [sizeLine_eq]; simp, ?_⟩
        rw [if_neg hnk]
        have rep6 := rep5.chg (ys := xs ++ [(p.1.map Sum.inl, g, .ref c)]) ha5 fa3 h0a
        have rep7 := rep6.chgL (vs := [v2]) pl4 hc6 fc h0c apc.1 apc.2
        refine ⟨F', _, _, rep7, s3, pl4, ej4, sj4, ll, kx4, ky4, by rw [upd_ne nac]; exact upd_same, fa3, ?_⟩
        refine GAt.new ?_ hnk (rowsAt_new fun z => hnk (kin.mpr z)) ncx fc h0c apc.1 apc.2 upd_same r1 r2
        refine (ga5.put fun z c' us hz e h => ?_).put fun z c' us hz e h => ?_
        · intro q
          rw [q, ha5] at h
          cases h
        · intro q
          rw [q] at e
          exact ncx z hz e
  · -- what is given back
    have ei2 : i = items.length := by omega
    have et : ps.take i = ps := List.take_of_length_le (by omega)
    rw [et] at ga
    refine .inl ⟨stop (by omega), ?_⟩
    have nd := keysOf_nodup (ps.map (·.1))
    have lks : (keysOf (ps.map (·.1))).length ≤ items.length := by
      have := ltk i
      rw [et] at this
      omega
    have kmem : ∀ k, k ∈ ps.map (·.1) → k ∈ keysOf (ps.map (·.1)) := fun k h => keysOf_mem.mpr h
    generalize keysOf (ps.map (·.1)) = kz at *
    have hcs : ∀ c, c ∈ (xs.filterMap fun z => match z.2.2 with | .ref c => some c | _ => none) → (NotPen pn c ∧ NotCa pn c) ∧ H0 c = none ∧ F2 c = none ∧ c ≠ a := fun c hcm => by
      obtain ⟨z, hz, e⟩ := List.mem_filterMap.mp hcm
      obtain ⟨n, hn⟩ := List.mem_iff_getElem?.mp hz
      obtain ⟨kk, hkk⟩ := ga.keyAt hn
      obtain ⟨q1, q2, c', us, q3, q4, q5, q6, q7, q8, q9⟩ := ga.at_ n z kk hn hkk
      rw [q3] at e
      cases e
      exact ⟨⟨q7, q8⟩, q6, q5, fun w => by rw [w, ha2] at q4; cases q4⟩
    generalize hcse : (xs.filterMap fun z => match z.2.2 with | .ref c => some c | _ => none) = cs at hcs
    have o3 := rep2.rep.ok.settleAll fun c h => (hcs c h).1
    have x3 := rep2.ext.settleAll fun c h => (hcs c h).2.1
    have f3a : setlF F2 H cs a = none := setlF_out fa2 fun h => (hcs a h).2.2.2 rfl
    have s23 : Same F2 (setlF F2 H cs) := setlF_same cs
    have ent : ∀ (n : Nat) (z : Ent) (kk : List Int), xs[n]? = some z → kz[n]? = some kk → z.1 = kk.map Sum.inl ∧ RV X.K (setlF F2 H cs) (.ref z.2.1) (tI kk) ∧ ∃ c, z.2.2 = .ref c ∧ RV X.K (setlF F2 H cs) (.ref c) (.list (rowsAt ps kk)) := fun n z kk h1 h2 => by
      obtain ⟨q1, q2, c', us, q3, q4, q5, q6, q7, q8, q9⟩ := ga.at_ n z kk h1 h2
      have hin : c' ∈ cs := by
        rw [← hcse]
        refine List.mem_filterMap.mpr ⟨z, List.mem_of_getElem? h1, ?_⟩
        rw [q3]
      exact ⟨q1, q2.mono s23, c', q3, .lst (by rw [setlF_in q5 hin]; exact q4) (q9.mono s23)⟩
    obtain ⟨vx, sx, rx⟩ := rep2.rep.slot ik _ kx
    obtain ⟨vy, sy, ry⟩ := rep2.rep.slot is _ ky
    have rx : RV X.K (setlF F2 H cs) vx x := RV.mono s23 rx
    have ry : RV X.K (setlF F2 H cs) vy y := RV.mono s23 ry
    have tk := rep2.rep.tk
    have lenx := ga.len
    have ndx := ga.nodup nd
    have npa := (rep2.rep.ok.pen.apart ha2).1
    have lσg : ig < σ.length := by rw [rep2.rep.len]; exact l3
    have lgz : gk.length = kz.length := by
      have := congrArg List.length esr
      unfold srt at this
      rw [List.length_mergeSort, List.length_map, List.length_map] at this
      exact this.symm
    generalize setlF F2 H cs = F3 at *
    have r1 := r.1
    clear r k it stop yld go ga rep2 rep1 rep t
    show tRet (tLc (iAny X.K (tGSort X.K X.prog X.w j)) (gName ig) tYes _ (own.map (·.2))) D σ H
    refine ⟨pn, F3, b1, a, xs, kz, o3, sj, ha2, ⟨lenx, fun n z kk h1 h2 => (ent n z kk h1 h2).2.1⟩, al, so, by omega, fun d hd => ?_, fun v F4 H4 o4 x4 ow nw => ?_⟩
    · obtain ⟨kk, _, rfl⟩ := List.mem_map.mp hd
      exact tI_depth kk
    obtain ⟨l, vs, rfl, fl, npl, ncl, hl4, rvs⟩ := ow
    rw [esr] at rvs
    refine .inl ⟨l, rfl, ⟨vs, SqL.of hl4⟩, fun D0 hD => ?_⟩
    obtain ⟨ha4, fa4⟩ := x4.keep a _ ha2 f3a npa
    have dPen := o4.pen.apartN hD
    have itl : ItOk X.K pn true (Ext pn F4 H4) (Itl X.K l) (gk.map tI) := it_list fun F H b o c => ⟨vs, (c.keep _ _ hl4 fl npl).1, rvs.mono c.fsub⟩
    rw [ho]
    refine ⟨fun i m H => ∃ F5 b5 acc us, Ok pn b5 F5 H ∧ Ext pn F4 H4 F5 H ∧ F5 D0 = none ∧ H D0 = some (.lst us) ∧ RVs X.K F5 us acc ∧ acc.length ≤ i ∧ i + m = gk.length ∧ wGrp f x y ((gk.map fun k => (k, rowsAt ps k)).drop i) b5 acc fun ds b2 => PD.rt (.list ds) b2,
      ⟨gk.length, F4, b1, [], [], o4.own hD, .own hD, o4.free hD, upd_same, .nil, Nat.le_refl _, by omega, wk⟩, fun i m H hW => ?_⟩
    obtain ⟨F5, b5, acc, us, o5, x5, fD, hDv, rus, la, em5, w⟩ := hW
    obtain ⟨go, stop, yld⟩ := itl i F5 H b5 o5 x5
    have lgk : (gk.map tI).length = gk.length := List.length_map _
    by_cases hi5 : i < gk.length
    · refine .inr ⟨go (by omega), fun H' => ∃ F5 b5 acc us, Ok pn b5 F5 H' ∧ Ext pn F4 H4 F5 H' ∧ F5 D0 = none ∧ H' D0 = some (.lst us) ∧ RVs X.K F5 us acc ∧ acc.length ≤ i + 1 ∧ wGrp f x y ((gk.map fun k => (k, rowsAt ps k)).drop (i + 1)) b5 acc fun ds b2 => PD.rt (.list ds) b2, fun H' hN => ?_, fun u H' hy => ?_⟩
      · obtain ⟨F6, b6, acc6, us6, c1, c2, c3, c4, c5, c6, c7⟩ := hN
        exact ⟨m - 1, by omega, F6, b6, acc6, us6, c1, c2, c3, c4, c5, c6, by omega, c7⟩
      · obtain ⟨F', d, hd, rv, o', x'⟩ := yld u H' hy (by omega)
        have rv := rv.resolve_right fun z => nomatch z.1
        have hkk : (gk.map tI)[i]? = some (tI gk[i]) := by rw [List.getElem?_map, List.getElem?_eq_getElem hi5]; rfl
        rw [hkk] at hd
        cases hd
        have hig : gk[i] ∈ gk := List.getElem_mem hi5
        rw [List.drop_eq_getElem_cons (by rw [List.length_map]; exact hi5), List.getElem_map] at w
        generalize gk[i] = key at *
        unfold wGrp at w
        obtain ⟨hD', fD'⟩ := x'.keep D0 _ hDv fD dPen.1
        have x45 := x5.trans x'
        obtain ⟨ha', fa'⟩ := x45.keep a _ ha4 fa4 npa
        obtain ⟨n, hn⟩ := List.mem_iff_getElem?.mp (kmem _ (gkin key hig))
        have hnx : n < xs.length := by rw [lenx]; exact (List.getElem?_eq_some_iff.mp hn).1
        obtain ⟨e1, e2, c, e3, e4⟩ := ent n xs[n] key (List.getElem?_eq_getElem hnx) hn
        obtain ⟨bk, ebk, tbk⟩ := tI_vals rv
        subst ebk
        have xx := x4.trans x45
        have wip : ∀ q, q ≠ ig → (wipe σ [ig])[q]? = σ[q]? := fun q hq => wipe_out (by simpa using hq)
        have st2 : ∀ q, q ≠ ig → ((wipe σ [ig]).set ig (some (V.ref bk)))[q]? = σ[q]? := fun q hq => by rw [List.getElem?_set_ne (Ne.symm hq)]; exact wip q hq
        show gName ig (V.ref bk) (wipe σ [ig]) H' _
        refine ⟨(wipe_sT (g := .nm ig) (v := .ref bk) (vs := []) (σ := wipe σ [ig]) (own := [ig]) (fun q hq => hq)).trans (wipe_idem _ _), ?_⟩
        unfold tYes
        dsimp only
        rw [if_pos rfl]
        refine ⟨vx, by rw [st2 ik (Ne.symm m2)]; exact sx, vy, by rw [st2 is (Ne.symm m3)]; exact sy, .ref bk, ?_, .ref a, by rw [st2 j (Ne.symm m1)]; exact sj, a, rfl, .ref bk, ?_, xs, bk, key.map Sum.inl, xs[n].2.1, c, ha', rfl, ?_, fun z hz => ?_, ?_, ?_⟩
        · rw [List.getElem?_set_self (by rw [wipe_length]; exact lσg)]
        · rw [List.getElem?_set_self (by rw [wipe_length]; exact lσg)]
        · rw [kV_inl]
          exact Same.tup o'.sub tbk
        · obtain ⟨n', hn'⟩ := List.mem_iff_getElem?.mp hz
          have hl' : n' < kz.length := by rw [← lenx]; exact (List.getElem?_eq_some_iff.mp hn').1
          obtain ⟨g1, g2, _⟩ := ent n' z kz[n'] hn' (List.getElem?_eq_getElem hl')
          obtain ⟨b', eb, tb⟩ := tI_vals g2
          cases eb
          rw [g1, kV_inl]
          exact Same.tup o'.sub (Same.tup xx.fsub tb)
        · refine atKey_of_get ndx (i := n) ?_
          rw [List.getElem?_eq_getElem hnx, ← e1, ← e3]
        · refine ⟨pn, F', [.d x, .d y, .d (tI key), .d (.list (rowsAt ps key))], b5, _, o', (⟨RV.mono xx.fsub rx, rfl, RV.mono xx.fsub ry, rfl, rv, rfl, e4.mono xx.fsub, rfl, tk⟩ : ArgsAre X.K pn F' H' [vx, vy, V.ref bk, V.ref c] [.d x, .d y, .d (tI key), .d (.list (rowsAt ps key))]), w, fun z dz F6 H6 b6 o6 x6 rz t6 => ?_⟩
          obtain ⟨hD6, fD6⟩ := x6.keep D0 _ hD' fD' dPen.1
          refine ⟨us, hD6, by rw [rus.len, sizeLine_eq]; omega, F6, b6, acc ++ [dz], us ++ [z], ?_, ?_, fD6, upd_same, (rus.mono (x'.fsub.trans x6.fsub)).app (.one rz), by simp; omega, t6⟩
          · refine ⟨fun c o q => ?_, ?_⟩
            · rw [upd_ne (fun z => by rw [z, fD6] at q; cases q)]; exact o6.sub c o q
            · exact o6.pen.wr dPen.1 dPen.2
          · have xy := x45.trans x6
            refine ⟨xy.fsub, fun c o hc fc nc => ?_⟩
            obtain ⟨q1, q2⟩ := xy.keep c o hc fc nc
            exact ⟨by rw [upd_ne (ne_of_none hc hD)]; exact q1, q2⟩
    · have e0 : (gk.map fun k => (k, rowsAt ps k)).drop i = [] := List.drop_of_length_le (by rw [List.length_map]; omega)
      rw [e0] at w
      refine .inl ⟨stop (by omega), ?_⟩
      refine r1 (.ref D0) (.list acc) (upd F5 D0 (.lst us)) H b5 (o5.settle hDv fD dPen.1 dPen.2) ?_ (.lst upd_same (rus.mono (same_new fD))) w
      have xx := x3.trans (x4.trans x5)
      refine ⟨xx.fsub.trans (same_new fD), fun c o hc fc nc => ?_⟩
      obtain ⟨q1, q2⟩ := xx.keep c o hc fc nc
      have hD0 : H0 D0 = none := (x3.trans x4).bk o4 hD
      exact ⟨q1, by rw [upd_ne (fun z => by rw [z, hD0] at hc; cases hc)]; exact q2⟩
end
theorem grp_run {f : WD} {x y : PyData} {n : Nat} (out : List Int → PyData) : ∀ (gs : List (List Int × List PyData)) (b : Nat) (acc : List PyData) (P : List PyData → Nat → Prop), n ≤ b → (∀ g ∈ gs, ∀ m, MD f [.d x, .d y, .d (tI g.1), .d (.list g.2)] m fun z m' => z = out g.1 ∧ m' = m) →
    (∀ b', n ≤ b' → P (acc ++ gs.map fun g => out g.1) b') → wGrp f x y gs b acc P
  | [], b, acc, P, hb, _, k => by
    unfold wGrp
    have := k b hb
    rwa [List.map_nil, List.append_nil] at this
  | g :: gs, b, acc, P, hb, h, k => by
    unfold wGrp
    refine h g List.mem_cons_self n b _ hb fun z m b' ⟨e1, e2⟩ hm => ?_
    subst e1 e2
    refine grp_run out gs b' _ P hm (fun g' hg => h g' (List.mem_cons_of_mem _ hg)) fun b2 hb2 => ?_
    have := k b2 hb2
    rwa [List.map_cons, List.append_cons] at this
theorem n_group {ti : WI} {j i1 i2 ik is ig : Nat} {f : WD} {env : En} {n : Nat} {N : En → Nat → Prop} {R : PyData → Nat → Prop} {B C : En → Nat → Prop} {x y : PyData} (l : j < env.length ∧ i1 < env.length ∧ i2 < env.length ∧ ig < env.length) (pl : plainE env) (hx : env[ik]? = some (some (.d x))) (hy : env[is]? = some (some (.d y)))
    (h : ME ti (env.set j none) n fun items m => items.length ≤ 1000 ∧ m = n ∧ ∃ (ps : List Gp) (gk : List (List Int)) (out : List Int → PyData), items = ps.map gD ∧ W.AllAlike ((keysOf (ps.map (·.1))).map tI) ∧ W.Sortable ((keysOf (ps.map (·.1))).map tI) ∧
      srt ((keysOf (ps.map (·.1))).map tI) = gk.map tI ∧ (∀ k ∈ gk, k ∈ ps.map (·.1)) ∧ (∀ k ∈ gk, ∀ m, MD f [.d x, .d y, .d (tI k), .d (.list (rowsAt ps k))] m fun z m' => z = out k ∧ m' = m) ∧ R (.list (gk.map out)) n) : MS (sGroup ti j i1 i2 ik is ig f) env n N R B C := fun PD b hb kn kr kb kc =>
  ⟨l, pl, h b _ hb fun items m b1 ⟨few, em, ps, gk, out, e1, e2, e3, e4, e5, e6, q⟩ hb1 => ⟨few, ps, x, y, gk, e1, hx, hy, e2, e3, e4, e5, grp_run out _ b1 [] _ (n := n) (by omega) (fun g hg m => by
    obtain ⟨k, hk, rfl⟩ := List.mem_map.mp hg
    exact e6 k hk m) fun b' hb' => kr _ n b' (by rw [List.nil_append, List.map_map]; exact q) hb'⟩⟩
end Pu
namespace Pu
open PySem PySem.Spec PyProof.Rows L2 SeqAt PuS
/-- no list of one's own in any slot, but perhaps the pen -/
def plainP (env : En) : Prop := ∀ (i : Nat) (s : Sl), env[i]? = some (some s) → (∃ x, s = .d x) ∨ s = .p
theorem plainP.set {env : En} (h : plainP env) {i : Nat} {o : Option Sl} (ho : ∀ s, o = some s → ∃ x, s = .d x) : plainP (env.set i o) := fun j s e => by
  by_cases z : j = i
  · subst z
    have hl : j < env.length := by have := (List.getElem?_eq_some_iff.mp e).1; simpa using this
    rw [List.getElem?_set_self hl] at e
    exact .inl (ho s (Option.some.inj e))
  · rw [List.getElem?_set_ne (Ne.symm z)] at e
    exact h j s e
theorem plainP.wipe {env : En} (h : plainP env) : ∀ own : List Nat, plainP (wipeE env own)
  | [] => h
  | v :: vs => (plainP.wipe h vs).set fun s e => by cases e
end Pu
namespace Pu
open PySem PySem.Spec PyProof.Rows L2 SeqAt PuS
end Pu
namespace PuT
open PySem PySem.Spec PyProof.Rows L2 Pu
open AutoSeq1 (wpAny_loadPart')
end PuT
namespace Pu
open PySem PySem.Spec PyProof.Rows L2 SeqAt PuT
end Pu
namespace Pu
open PySem PySem.Spec PyProof.Rows L2 SeqAt
end Pu
namespace PuZ
open PySem PySem.Spec PyProof.Rows L2
end PuZ
namespace Pu
open PySem PySem.Spec PyProof.Rows L2 SeqAt PuZ
end Pu
namespace Pu
open PySem PySem.Spec PyProof.Rows L2 PuS
/-- as Sign, by the names' record itself -/
structure SignN (X : Cx) (ir : Nat) (xr : Str) (y : Str) (tk : Tok) (σ : L2.St) (s : Shared) : Prop where
  at_ : σ[ir]? = some (some (.str y))
  ns : ∃ m, s.heap.Ns X.env.locals m ∧ m xr = some (.str y tk)
  kl : X.env.scope.names.lookup xr = some .local
  hd : (xr == ("__debug__" : Str)) = false
  t0 : tk ≠ 0
  tl : tk < s.toks
  ny : (y == Str.empty) = false
section
variable {X : Cx} {ir : Nat} {xr y : Str} {tk : Tok} {σ : L2.St} {s : Shared} {pins : List (Addr × Obj)} {H : Hp}
theorem SignN.keep {s' : Shared} (h : SignN X ir xr y tk σ s) (k : ∀ b o, s.heap.get? b = some o → s'.heap.get? b = some o) (l : s.toks ≤ s'.toks) : SignN X ir xr y tk σ s' := by
  obtain ⟨m, ns, e⟩ := h.ns
  exact ⟨h.at_, ⟨m, ns.keeps k, e⟩, h.kl, h.hd, h.t0, Nat.lt_of_lt_of_le h.tl l, h.ny⟩
end
section
variable (X : Cx) (ir : Nat) (xr : Str)
/-- an expression by which the sign stays known -/
def PERK (e : Expr) (t : TE) : Prop := ∀ (pins : List (Addr × Obj)) (s : Shared) (σ : L2.St) (H : Hp) (Q : VK) (y : Str) (tk : Tok), SignN X ir xr y tk σ s → Inv X pins σ H s → t σ H Q →
  wpAny (model X.prog X.w) X.A (eval e X.env) (fun v s1 => ∃ x H1, Inv X pins σ H1 s1 ∧ RelV x v ∧ Q x H1 ∧ SignN X ir xr y tk σ s1) X.xe s
/-- an expression, the sign known ahead of it -/
def PERN (e : Expr) (t : TE) : Prop := ∀ (pins : List (Addr × Obj)) (s : Shared) (σ : L2.St) (H : Hp) (Q : VK) (y : Str) (tk : Tok), SignN X ir xr y tk σ s → Inv X pins σ H s → t σ H Q → wpAny (model X.prog X.w) X.A (eval e X.env) (EP X pins σ Q) X.xe s
end
end Pu
namespace Pu
open PySem PySem.Spec PyProof.Rows L2 PuS SeqAt
section
variable {X : Cx} {ir : Nat} {xr : Str} {a c e : Expr} {ta tb te : WE} {pos : Pos}
theorem PERK.imp {t u : TE} (h : PERK X ir xr e t) (i : ∀ σ H Q, u σ H Q → t σ H Q) : PERK X ir xr e u := fun pins s σ H Q y tk sg I q => h pins s σ H Q y tk sg I (i _ _ _ q)
theorem PERN.imp {t u : TE} (h : PERN X ir xr e t) (i : ∀ σ H Q, u σ H Q → t σ H Q) : PERN X ir xr e u := fun pins s σ H Q y tk sg I q => h pins s σ H Q y tk sg I (i _ _ _ q)
theorem PST.imp {st : Stmt} {t u : TS} (h : PST X st t) (i : ∀ D σ H, u D σ H → t D σ H) : PST X st u := fun pins s σ H D h0 I q => h pins s σ H D h0 I (i _ _ _ q)
end
end Pu
namespace Pu
open PySem PySem.Spec PyProof.Rows L2 PuS
end Pu
namespace Pu
open PySem PySem.Spec PyProof.Rows L2 PuS SeqAt
end Pu
namespace Pu
open PySem PySem.Spec PyProof.Rows L2 PuS SeqAt
end Pu
namespace Pu
open PySem PySem.Spec PyProof.Rows L2 PuS SeqAt
end Pu
namespace Pu
open PySem PySem.Spec PyProof.Rows L2 PuS
end Pu
namespace Pu
open PySem PySem.Spec PyProof.Rows L2 PuS
section
variable {X : Cx} {CX : CXT} {k : Nat} {f : Addr} {fd : FuncData} {ps : List Str} {sp : Sp} {ds : List Value} {dvs : List V} {E : XK} {e : Expr} {es : List Expr} {x : Str} {p pos : Pos}
theorem PET.imp {e : Expr} {t u : TE} (h : PET X e t) (i : ∀ σ H Q, u σ H Q → t σ H Q) : PET X e u := fun pins s σ H Q h0 I q => h pins s σ H Q h0 I (i _ _ _ q)
/-- a test behind a token -/
def PTT (X : Cx) (e : Expr) (t : TT) : Prop := ∀ (pins : List (Addr × Obj)) (s : Shared) (σ : L2.St) (H : Hp) (Q : Bool → Hp → Prop), 1 ≤ s.toks → Inv X pins σ H s → t σ H Q → wpAny (model X.prog X.w) X.A (isTrue e X.env (eval e X.env)) (TP X pins σ Q) X.xe s
theorem PTT.imp {e : Expr} {t u : TT} (h : PTT X e t) (i : ∀ σ H Q, u σ H Q → t σ H Q) : PTT X e u := fun pins s σ H Q h0 I q => h pins s σ H Q h0 I (i _ _ _ q)
end
end Pu
namespace Pu
open PySem PySem.Spec PyProof.Rows L2 PuS SeqAt
end Pu
namespace Pu
open PySem PySem.Spec PyProof.Rows L2 PuS SeqAt
end Pu
namespace Pu
open PySem PySem.Spec PyProof.Rows L2 PuS
end Pu
namespace Pu
open PySem PySem.Spec PyProof.Rows L2 PuS
end Pu
namespace Pu
open PySem PySem.Spec PyProof.Rows L2 PuS
end Pu
namespace Pu
open PySem PySem.Spec PyProof.Rows L2 PuS
end Pu
namespace Pu
open PySem PySem.Spec PyProof.Rows L2 PuS SeqAt
end Pu
namespace Pu
open PySem PySem.Spec PyProof.Rows L2 PuS SeqAt
end Pu
namespace Pu
open PySem PySem.Spec PyProof.Rows L2 PuS LamX
inductive XF where
  | fa (f : He.Fa)
  | isc (x : Str)
  | kit (x y : Str) (b : Bool)
def XF.ok (K : PySem.W.Frag) : XF → Bool
  | .fa f => f.ok K
  | .isc x => He.eqO (PySem.W.findIn K (.ref (He.ga K x)) "__getattribute__") (some (some (.builtin "BaseException.__getattribute__"))) && (He.eqO (PySem.W.findIn K (.ref (He.ga K x)) "__getattr__") (some none) && (decide (PySem.W.subIn K (.ref (He.ga K x)) (.type "BaseException") = some true) && (PySem.W.hasDictIn K (He.ga K x) &&
      (He.eqO (PySem.W.findIn K (.ref (He.ga K x)) "__class__") (some (some (.builtin "object.__class__"))) && (He.eqO (PySem.W.specialIn K (.builtin "object.__class__") "__get__") (some (some (.builtin "getset_descriptor.__get__"))) && (decide (PySem.W.takesIn K (.builtin "object.__class__") = some true) && decide (PySem.W.mroIn K (He.ga K x) (.type "object") = some true)))))))
  | .kit x y b => decide (PySem.W.kitOne K (.ref (He.ga K x)) (.ref (He.ga K y)) = some b)
end Pu
namespace Pu
open PySem PySem.Spec PyProof.Rows L2 PuS SeqAt
end Pu
namespace Pu
open PySem PySem.Spec PyProof.Rows L2 PuS SeqAt
end Pu
namespace Pu
open PySem PySem.Spec PyProof.Rows L2 PuS SeqAt
end Pu
namespace Pu
open PySem PySem.Spec PyProof.Rows L2 PuS
/-- the list in slot j: its items are as Z says -/
def Nw (Z : List V → Prop) (j : Nat) (σ : L2.St) (H : Hp) (env : En) : Prop := (∃ xs, env[j]? = some (some (Sl.l xs))) ∧ ∃ a vs, σ[j]? = some (some (V.ref a)) ∧ H a = some (.lst vs) ∧ Z vs
def NwV (Z : List V → Prop) (v : V) (H : Hp) : Prop := ∃ a vs, v = .ref a ∧ H a = some (.lst vs) ∧ Z vs
/-- the first item is a list that H does not hold -/
def New0 (H : Hp) (vs : List V) : Prop := ∃ a0 r, vs = .ref a0 :: r ∧ H a0 = none
theorem New0.app {H : Hp} {vs ws : List V} (h : New0 H vs) : New0 H (vs ++ ws) := let ⟨a0, r, e, z⟩ := h; ⟨a0, r ++ ws, by rw [e]; rfl, z⟩
def lN (Z : List V → Prop) (j : Nat) (K : PySem.W.Frag) (t : WS) : TS := fun D σ H => ∃ pn F0 H0 F env b PD, RepS K pn F0 H0 F H σ env b ∧ Nw Z j σ H env ∧ t PD env b ∧
  (∀ σ' F' H' env' b', RepS K pn F0 H0 F' H' σ' env' b' → Nw Z j σ' H' env' → (PD.nx env' b' → D.nx σ' H') ∧ (PD.bk env' b' → D.bk σ' H') ∧ (PD.ct env' b' → D.ct σ' H')) ∧
  (∀ v d F' H' b', Ok pn b' F' H' → Ext pn F0 H0 F' H' → RV K F' v d → PD.rt d b' → D.rt v H') ∧
  (∀ v ds F' H' b', Ok pn b' F' H' → Ext pn F0 H0 F' H' → OwnL K pn F' H' v ds → (∀ a, v = .ref a → H0 a = none) → NwV Z v H' → PD.rl ds b' → D.rt v H')
/-- such a def's start -/
def lM (j : Nat) (K : PySem.W.Frag) (t : WS) : TS := fun D σ H => ∃ pn F env b PD, RepS K pn F H F H σ env b ∧ j < env.length ∧ t PD env b ∧
  (∀ σ' F' H' env' b', RepS K pn F H F' H' σ' env' b' → (PD.nx env' b' → D.nx σ' H') ∧ (PD.bk env' b' → D.bk σ' H') ∧ (PD.ct env' b' → D.ct σ' H')) ∧
  (∀ v d F' H' b', Ok pn b' F' H' → Ext pn F H F' H' → RV K F' v d → PD.rt d b' → D.rt v H') ∧
  (∀ v ds F' H' b', Ok pn b' F' H' → Ext pn F H F' H' → OwnL K pn F' H' v ds → (∀ a, v = .ref a → H a = none) → NwV (New0 H) v H' → PD.rl ds b' → D.rt v H')
abbrev SSN (Z : List V → Prop) (j : Nat) (X : Cx) (st : Stmt) (t : WS) : Prop := PS X st (lN Z j X.K t)
abbrev SBN (Z : List V → Prop) (j : Nat) (X : Cx) (st : List Stmt) (t : WS) : Prop := PSs X st (lN Z j X.K t)
section
variable {K : PySem.W.Frag} {pn : Pn} {b b' : Nat} {F H F' H' : Hp} {Z : List V → Prop} {σ : L2.St} {env : En} {i j : Nat}
theorem Nw.ext (n : Nw Z j σ H env) (r : Rep K pn F H σ env b) (x : Ext pn F H F' H') : Nw Z j σ H' env := by
  obtain ⟨⟨xs, hx⟩, a, ws, hs, ha, z⟩ := n
  obtain ⟨v, hv, c, vs, rfl, f, np, nc, hc, rv⟩ := r.slot j _ hx
  rw [hs] at hv
  cases hv
  exact ⟨⟨xs, hx⟩, a, ws, hs, (x.keep a _ ha f np).1, z⟩
theorem Nw.set (n : Nw Z j σ H env) (ij : i ≠ j) {v : V} {s : Option Sl} : Nw Z j (σ.set i (some v)) H (env.set i s) := by
  obtain ⟨⟨xs, hx⟩, a, ws, hs, ha, z⟩ := n
  exact ⟨⟨xs, by rw [List.getElem?_set_ne ij]; exact hx⟩, a, ws, by rw [List.getElem?_set_ne ij]; exact hs, ha, z⟩
end
section
variable {Z : List V → Prop} {j : Nat} {X : Cx} {st : Stmt} {rest : List Stmt} {t u : WS} {te : WE} {e : Expr} {pos : Pos}
theorem nb_nil : SBN Z j X [] sNext := PSs.imp pss_nil fun D σ H ⟨pn, F0, H0, F, env, b, PD, rep, n, t, k, _⟩ => (k σ F H env b rep n).1 t
theorem lN_in {K : PySem.W.Frag} {D : Ends} {σ : L2.St} {H : Hp} (h : lN Z j K (sSeq t u) D σ H) : tSeq (lN Z j K t) (lN Z j K u) D σ H := by
  obtain ⟨pn, F0, H0, F, env, b, PD, rep, n, w, k, r⟩ := h
  refine ⟨pn, F0, H0, F, env, b, { PD with nx := fun env' b' => u PD env' b' }, rep, n, w, fun σ' F' H' env' b' rep' n' => ⟨fun q => ?_, (k σ' F' H' env' b' rep' n').2.1, (k σ' F' H' env' b' rep' n').2.2⟩, r⟩
  exact ⟨pn, F0, H0, F', env', b', PD, rep', n', q, k, r⟩
theorem nb_cons (h1 : SSN Z j X st t) (h2 : SBN Z j X rest u) : SBN Z j X (st :: rest) (sSeq t u) := PSs.imp (pss_cons h1 h2) fun _ _ _ h => lN_in h
theorem nb_one (h1 : SSN Z j X st t) : SBN Z j X [st] t := pss_one h1
theorem n'_if {c : Expr} {p q : List Stmt} {tc : WT} (hc : ET X c tc) (ha : SBN Z j X p t) (hb : SBN Z j X q u) : SSN Z j X (.If c p q pos) (sIf tc t u) := PS.imp (ps_if hc ha hb) fun D σ H ⟨pn, F0, H0, F, env, b, PD, rep, n, w, k, r⟩ => by
  refine ⟨pn, F, env, b, _, rep.rep, w, fun kc F1 H1 b1 o1 e1 t1 => ?_⟩
  cases kc with
  | true => exact ⟨pn, F0, H0, F1, env, b1, PD, rep.ext' o1 e1, n.ext rep.rep e1, t1, k, r⟩
  | false => exact ⟨pn, F0, H0, F1, env, b1, PD, rep.ext' o1 e1, n.ext rep.rep e1, t1, k, r⟩
theorem n'_set {i : Nat} {x : Str} {pos' : Pos} (ij : i ≠ j) (hN : X.N.Nodup) (hi : X.N[i]? = some x) (hx : Loc X.env.scope x) (he : EE X e te) (hs : swapsWith e (some (.Name x pos')) pos.line X.env = pure false := by rfl) (hf : X.fn x = true ∨ X.env.scope.names.lookup x = some .local := by first | exact .inl rfl | exact .inr rfl) :
    SSN Z j X (.Assign [.Name x pos'] e pos) (sSet te i) := PS.imp (ps_set hN hi hx he hs hf) fun D σ H ⟨pn, F0, H0, F, env, b, PD, rep, n, t, k, r⟩ =>
  ⟨pn, F, env, b, _, rep.rep, t, fun v d F' H' b' o x rv q => (k _ F' H' _ b' ((rep.ext' o x).setD rv) ((n.ext rep.rep x).set ij)).1 q⟩
theorem n'_app {x : Str} {p apos cpos : Pos} (za : ∀ vs w, Z vs → Z (vs ++ [w])) (h : PE X (.Name x p) (tVar j)) (he : EE X e te) (hb : attributeBase (.Name x p) "append" X.env (eval (.Name x p) X.env) = eval (.Name x p) X.env := by rfl)
    (hfew : ((backTo cpos (starEach [e] X.env)).all (fun x => !x.1) && (backToKw cpos (keywordEach [] X.env)).all (fun x => x.1.isSome) && decide ([e].length + ([] : List Keyword).length + (if ([] : List Keyword).isEmpty then 0 else 1) < 30)) = true := by rfl)
    (hl : (apos.endLine == cpos.line) = true := by rfl) (hs : starEach [e] X.env = (false, eval e X.env) :: starEach [] X.env := by rfl) (hp : (backTo cpos (starEach [] X.env)).any (·.1) = false := by rfl)
    (hw : swapsWith (.Call (.Attribute (.Name x p) "append" apos) [e] [] cpos) none pos.line X.env = pure false := by rfl) :
    SSN Z j X (.Expr (.Call (.Attribute (.Name x p) "append" apos) [e] [] cpos) pos) (sApp j te) :=
  PS.imp (ps_expr (pe_bm PySem.F.plainAttrs_list PySem.F.slot_list_append PySem.F.type_list_append mt_append h (pa_cons he pa_nil hs) hb hfew hl hs hp) hw) fun D σ H ⟨pn, F0, H0, F, env, b, PD, rep, n, t, k, r⟩ => by
    unfold sApp at t
    split at t
    · rename_i xs hx
      obtain ⟨v, hv, ow⟩ := rep.rep.slot j _ hx
      obtain ⟨a, vs, rfl, fa, np, nc, ha, rvs⟩ := id ow
      refine ⟨.ref a, hv, .inl ⟨rfl, vs, SqL.of ha⟩, pn, F, env, b, _, rep.rep, t, fun w d F1 H1 b1 o1 x1 rv q => ?_⟩
      obtain ⟨ha1, fa1⟩ := x1.keep a _ ha fa np
      refine ⟨a, vs, w, rfl, rfl, ha1, by rw [rvs.len]; exact q.1, (k σ F1 _ _ b1 ((rep.ext' o1 x1).write hx hv ((rvs.mono x1.fsub).app (.one rv))) ?_).1 q.2⟩
      obtain ⟨_, a', ws, hs', ha', z⟩ := n
      rw [hv] at hs'
      cases hs'
      rw [ha] at ha'
      cases ha'
      exact ⟨⟨_, List.getElem?_set_self (List.getElem?_eq_some_iff.mp hx).1⟩, a, _, hv, upd_same, za _ _ z⟩
    · exact t.elim
theorem n'_retO {x : Str} {p : Pos} (h : PE X (.Name x p) (tVar j)) : SSN Z j X (.Return (some (.Name x p)) pos) (sRetO j) := PS.imp (ps_ret h) fun D σ H ⟨pn, F0, H0, F, env, b, PD, rep, n, t, k, r⟩ => by
  unfold sRetO at t
  split at t
  · rename_i y h
    obtain ⟨v, h1, h2⟩ := rep.rep.slot j _ h
    exact ⟨v, h1, r.1 v y F H b rep.rep.ok rep.ext h2 t⟩
  · rename_i ys h
    obtain ⟨v, h1, h2⟩ := rep.rep.slot j _ h
    refine ⟨v, h1, r.2 v ys F H b rep.rep.ok rep.ext h2 (fun a ea => rep.own j a _ rfl h (by rw [h1, ea])) ?_ t⟩
    obtain ⟨_, a', ws, hs', ha', z⟩ := n
    rw [h1] at hs'
    cases hs'
    exact ⟨a', ws, rfl, ha', z⟩
  · exact t.elim
theorem n'_for {iw : Bool} {tg iter : Expr} {i : Nat} {body : List Stmt} {ti : WI} {tb : WS} (ij : i ≠ j) (hp : PassesOwn (model X.prog X.w) X.A X.env X.xe) (hc : X.calm = true) (hi : PI X tg iter (lI X.K false iw ti)) (hg : PGt X tg (.nm i)) (hb : SBN Z j X body tb) (hs : ∀ x, foldedSetIterable iter X.env x = pure x := by intro _; rfl) (hw : iw = true ∨ ∃ is, Tg.nm i = .tp is := by first | exact .inl rfl | exact .inr ⟨_, rfl⟩) :
    SSN Z j X (.For tg iter body [] pos) (sFor ti (.nm i) tb) := PS.imp (ps_for hp hc hi hg hb hs) fun D σ H ⟨pn, F0, H0, F, env, b, PD, rep, n, t, k, r⟩ => by
  refine ⟨pn, F, env, b, _, rep.rep, t, fun items F1 H1 b1 J o1 x1 it t1 => ?_⟩
  refine ⟨fun i' m σ H => ∃ F env b, RepS X.K pn F0 H0 F H σ env b ∧ Nw Z j σ H env ∧ Same F1 F ∧ i' + m = items.length ∧ wFor (.nm i) tb PD (items.drop i') env b, ⟨items.length, F1, env, b1, rep.ext' o1 x1, n.ext rep.rep x1, Same.refl _, by omega, t1⟩, fun i' m σ H hW => ?_⟩
  obtain ⟨F2, env2, b2, rep2, n2, sm, em, w⟩ := hW
  obtain ⟨go, stop, yld⟩ := it i' F2 H b2 rep2.rep.ok sm
  by_cases hi : i' < items.length
  · refine .inr ⟨go hi, fun σ' H' => ∃ F' env' b', RepS X.K pn F0 H0 F' H' σ' env' b' ∧ Nw Z j σ' H' env' ∧ Same F1 F' ∧ wFor (.nm i) tb PD (items.drop (i' + 1)) env' b', fun σ' H' hN => ?_, fun x H' hy => ?_⟩
    · obtain ⟨F', env', b', r', n', s', w'⟩ := hN
      exact ⟨m - 1, by omega, F', env', b', r', n', s', by omega, w'⟩
    · obtain ⟨F', d, hd, rv, o', x'⟩ := yld x H' hy hi
      rw [List.drop_eq_getElem_cons hi] at w
      have ed : items[i'] = d := by
        rw [List.getElem?_eq_getElem hi] at hd
        exact Option.some.inj hd
      rw [ed] at w
      unfold wFor at w
      split at w
      · rename_i env' hset
        have he' : env' = env2.set i (some (.d d)) := (Option.some.inj hset).symm
        refine gT_run (F0 := F0) (H0 := H0) (env := env2) o' rv hw hset fun vs c1 _ => ?_
        have rep3 := c1 (rep2.ext' o' x')
        have n3 : Nw Z j (sT (.nm i) x vs σ) H' env' := by rw [he']; exact (n2.ext rep2.rep x').set ij
        have s3 := sm.trans x'.fsub
        have x01 := rep.ext.trans x1
        refine ⟨pn, F1, hU H0 F1, F', env', b2, _, rep3.up x01 s3, n3, w, fun σ4 F4 H4 env4 b4 rep4 n4 => ?_, ⟨fun v d F4 H4 b4 o4 x4 rv q => r.1 v d F4 H4 b4 o4 (x01.down x4) rv q, fun v d F4 H4 b4 o4 x4 ow nw nv q => r.2 v d F4 H4 b4 o4 (x01.down x4) ow (fun a ea => by
          have h3 := nw a ea
          obtain ⟨c, us, ec, fc, _⟩ := ow
          have : a = c := by rw [ea] at ec; exact V.ref.inj ec
          subst this
          rwa [hU_none (x4.fsub.free fc)] at h3) nv q⟩⟩
        have rep5 := rep4.down x01
        exact ⟨fun q => ⟨F4, env4, b4, rep5, n4, rep4.ext.fsub, q⟩, fun q => (k σ4 F4 H4 env4 b4 rep5 n4).1 q, fun q => ⟨F4, env4, b4, rep5, n4, rep4.ext.fsub, q⟩⟩
      · exact w.elim
  · have e0 : items.drop i' = [] := List.drop_of_length_le (by omega)
    rw [e0] at w
    exact .inl ⟨stop (by omega), (k σ F2 H env2 b2 rep2 n2).1 w⟩
/-- x = [a new list] ahead of the rest -/
theorem nb_first {tf : WF} {x : Str} {pos' lp : Pos} (hN : X.N.Nodup) (hi : X.N[j]? = some x) (hx : Loc X.env.scope x) (he : EF X e tf) (hr : ∀ Z, SBN (New0 Z) j X rest u)
    (hse : starEach [e] X.env = (false, eval e X.env) :: starEach [] X.env := by rfl) (hs : swapsWith (.List [e] lp) (some (.Name x pos')) pos.line X.env = pure false := by rfl) (hf : X.fn x = true ∨ X.env.scope.names.lookup x = some .local := by first | exact .inl rfl | exact .inr rfl) :
    PSs X (.Assign [.Name x pos'] (.List [e] lp) pos :: rest) (lM j X.K (sSeq (sSetL (wLst (wCons (fz tf) wNil)) j) u)) := by
  refine ⟨fun pins s σ H D I q => ?_⟩
  refine (PSs.imp (t := tSeq _ (lN (New0 H) j X.K u)) (pss_cons (ps_set hN hi hx (pe_lst (pa_cons he pa_nil hse)) hs hf) (hr H)) fun D σ' H' (h : lM j X.K (sSeq (sSetL (wLst (wCons (fz tf) wNil)) j) u) D σ' H' ∧ H' = H) => ?_).run pins s σ H D I ⟨q, rfl⟩
  obtain ⟨⟨pn, F, env, b, PD, rep, hj, t, k, r⟩, eH⟩ := h
  subst eH
  refine ⟨pn, F, env, b, _, rep.rep, t, fun v ds F1 H1 b1 o1 x1 ow nw q => ?_⟩
  obtain ⟨z, q⟩ := q
  refine ⟨z, fun p hp => ?_⟩
  obtain ⟨a, vs, rfl, fa, np, nc, ha, rv⟩ := ow
  have o2 := o1.settle ha fa np nc
  have x2 : Ext pn F H' (upd F1 a (.lst vs)) H1 := ⟨x1.fsub.trans (same_new fa), fun c w hc fc ncp => by
    obtain ⟨h1, f1⟩ := x1.keep c w hc fc ncp
    exact ⟨h1, by rw [upd_ne (fun z => by rw [z, nw a rfl] at hc; cases hc)]; exact f1⟩⟩
  have rep2 := rep.ext' o2 x2
  have o3 := o2.own (o := .lst [.ref a]) hp
  have x3 : Ext pn (upd F1 a (.lst vs)) H1 (upd F1 a (.lst vs)) (upd H1 p (.lst [.ref a])) := Ext.own hp
  have rep3 := rep2.ext' o3 x3
  have fp : upd F1 a (.lst vs) p = none := o2.free hp
  have ow3 : OwnL X.K pn (upd F1 a (.lst vs)) (upd H1 p (.lst [.ref a])) (.ref p) [.list ds] := ⟨p, _, rfl, fp, (o2.pen.apartN hp).1, (o2.pen.apartN hp).2, upd_same, .cons (.lst upd_same (rv.mono (same_new fa))) .nil⟩
  have f3 := rep2.fresh (v := .ref p) (fun c ec => by cases ec; exact hp)
  refine ⟨pn, F, H', _, _, b1, PD, rep3.setL ow3 f3, ⟨⟨_, List.getElem?_set_self hj⟩, p, [.ref a], List.getElem?_set_self (by rw [rep.rep.len]; exact hj), upd_same, a, [], rfl, nw a rfl⟩, q, fun σ4 F4 H4 env4 b4 rep4 _ => k σ4 F4 H4 env4 b4 rep4, r⟩
end
def spN (K : PySem.W.Frag) (f : WDO) : Sp := fun vs H Q _ => ∃ pn F ss b P L, Ok pn b F H ∧ ArgsAre K pn F H vs ss ∧ f ss b P L ∧
  (∀ v d F' H' b', Ok pn b' F' H' → Ext pn F H F' H' → RV K F' v d → P d b' → Q v H') ∧
  (∀ v ds F' H' b', Ok pn b' F' H' → Ext pn F H F' H' → OwnL K pn F' H' v ds → (∀ a, v = .ref a → H a = none) → NwV (New0 H) v H' → L ds b' → Q v H')
section
variable {P : Program} {w : World} {K : PySem.W.Frag} {mg : Str → Option Value} {base : Heap}
theorem env0_len (nn : Nat) (ss : List Sl) : nn ≤ (env0 nn ss).length := by
  unfold env0
  rw [List.length_append, List.length_map, List.length_replicate]
  omega
theorem ok_fnN {x qual : Str} {st : Stmt} {f : Addr} {fd : FuncData} {N ps : List Str} {k j : Nat} {t : WS} (F : Fun K x qual st f fd) (S : FnScope N ps (defScope st)) (hj : j < N.length)
    (body : ∀ (cdv : Value) (A : Around) (outer : List Env) (s : Shared) (H : Hp) (E : XK), Room k (A.deeper (envOfC qual (defScope st) s.heap.objs.size f cdv)) → PSs (cxOf CX0 P w K mg base N qual (defScope st) f cdv A outer s H E).nox (defBody st) (lM j K t)) :
    FnOk P w K mg base CX0 (k + 1) f fd ps (spN K (wDefO ps.length N.length t)) := by
  refine F.ok S (fun vs H Q E h => ?_) (fun cdv A outer s H vs Q E hr h => ?_)
  · obtain ⟨pn, F, ss, b, P, L, o, ar, ⟨hl, _⟩, _⟩ := h
    rw [ar.len, hl]
  · obtain ⟨pn, F, ss, b, PP, L, o, ar, ⟨hl, q⟩, kk, kl⟩ := h
    exact ⟨lM j K t, body cdv A outer s H E hr, pn, F, _, b, _, start_rep o ar, Nat.lt_of_lt_of_le hj (env0_len _ _), q,
      fun σ' F' H' env' b' rep' => ⟨fun q => kk .non .none F' H' b' rep'.rep.ok rep'.ext .non q, fun q => q, fun q => q⟩, ⟨fun v d F' H' b' o' x' rv q => kk v d F' H' b' o' x' rv q, fun v d F' H' b' o' x' ow nw nv q => kl v d F' H' b' o' x' ow nw nv q⟩⟩
end
end Pu
namespace Pu
open PySem PySem.Spec PyProof.Rows L2 PuS
section
variable {K : PySem.W.Frag} {pn : Pn} {b b' : Nat} {F0 H0 F H F' H' : Hp} {σ : L2.St} {env : En} {i : Nat} {v : V}
theorem Rep.setZ (r : Rep K pn F H σ env b) : Rep K pn F H (σ.set i (some v)) (env.set i none) b := by
  refine ⟨r.ok, by simp [r.len], fun j s h => ?_, fun j k a xs ys n h1 h2 h3 => ?_, r.tk⟩
  · by_cases e : j = i
    · subst e
      have hl : j < env.length := by have := (List.getElem?_eq_some_iff.mp h).1; simpa using this
      rw [List.getElem?_set_self hl] at h
      cases h
    · rw [List.getElem?_set_ne (Ne.symm e)] at h
      rw [List.getElem?_set_ne (Ne.symm e)]
      exact r.slot j s h
  · have e1 : j ≠ i := fun e => by
      subst e
      have hl : j < env.length := by have := (List.getElem?_eq_some_iff.mp h1).1; simpa using this
      rw [List.getElem?_set_self hl] at h1
      cases h1
    have e2 : k ≠ i := fun e => by
      subst e
      rcases h2 with h2 | h2
      all_goals
        have hl : k < env.length := by have := (List.getElem?_eq_some_iff.mp h2).1; simpa using this
        rw [List.getElem?_set_self hl] at h2
        cases h2
    rw [List.getElem?_set_ne (Ne.symm e1)] at h1 h3
    rw [List.getElem?_set_ne (Ne.symm e2)] at h2 ⊢
    exact r.apart j k a xs ys n h1 h2 h3
theorem RepS.setZ (r : RepS K pn F0 H0 F H σ env b) : RepS K pn F0 H0 F H (σ.set i (some v)) (env.set i none) b := by
  refine ⟨r.rep.setZ, r.ext, fun j a xs hs h1 h2 => ?_⟩
  have e1 : j ≠ i := fun e => by
    subst e
    have hl : j < env.length := by have := (List.getElem?_eq_some_iff.mp h1).1; simpa using this
    rw [List.getElem?_set_self hl] at h1
    cases h1
  rw [List.getElem?_set_ne (Ne.symm e1)] at h1 h2
  exact r.own j a xs hs h1 h2
/-- the settled part without one address -/
def ers (F : Hp) (a0 : Addr) : Hp := fun u => if u = a0 then none else F u
theorem ers_ne {a0 u : Addr} (h : u ≠ a0) : ers F a0 u = F u := if_neg h
theorem ers_none {a0 u : Addr} (h : F u = none) : ers F a0 u = none := by
  unfold ers
  split
  · rfl
  · exact h
theorem ers_some {a0 u : Addr} {o : HO} (h : ers F a0 u = some o) : u ≠ a0 ∧ F u = some o := by
  unfold ers at h
  split at h
  · cases h
  · rename_i n
    exact ⟨n, h⟩
theorem take_out {FA HA F3 H3 H6 : Hp} {bA : Nat} {a0 a p : Addr} {vs0 : List V} (oA : Ok pn bA FA HA) (o3 : Ok pn b F3 H3) (xA : Ext pn FA HA F3 H3) (h0 : HA a0 = none) (f0 : F3 a0 = some (.lst vs0))
    (ha : HA a = none) (fa : F3 a = none) (hp : H3 p = none) (same : ∀ u, u ≠ a0 → u ≠ a → u ≠ p → H6 u = H3 u) : Ok pn b (ers F3 a0) H6 ∧ Ext pn FA HA (ers F3 a0) H6 := by
  have fp : F3 p = none := o3.free hp
  obtain ⟨np0, nc0⟩ := oA.pen.apartN h0
  obtain ⟨npa, nca⟩ := oA.pen.apartN ha
  refine ⟨⟨fun u w e => ?_, ?_⟩, fun u w e => ?_, fun u w hu fu np => ?_⟩
  · obtain ⟨n0, e⟩ := ers_some e
    rw [same u n0 (fun z => by rw [z, fa] at e; cases e) (fun z => by rw [z, fp] at e; cases e)]
    exact o3.sub u w e
  · have k := o3.pen
    match pn, k, np0, nc0, npa, nca with
    | none, _, _, _, _, _ => trivial
    | some q, ⟨f1, f2, ne, tb, cells, at_, cur, h1, h2, i⟩, np0, nc0, npa, nca =>
      have g : ∀ (u : Addr) (w : HO), u ≠ a0 → u ≠ a → H3 u = some w → H6 u = some w := fun u w n1 n2 e => by
        rw [same u n1 n2 (fun z => by rw [z, hp] at e; cases e)]; exact e
      refine ⟨ers_none f1, ers_none f2, ne, fun t ht => ?_, cells, at_, cur, g _ _ (np0 q rfl).1.symm (npa q rfl).1.symm h1, g _ _ (nc0 q rfl).symm (nca q rfl).symm h2, i⟩
      obtain ⟨t1, ps, t2, t3, t4⟩ := tb t ht
      refine ⟨ers_none t1, ps, g _ _ ((np0 q rfl).2 t ht).symm ((npa q rfl).2 t ht).symm t2, t3, fun pos cv hc => ?_⟩
      obtain ⟨c, e1, e2⟩ := t4 pos cv hc
      refine ⟨c, e1, ?_⟩
      rw [ers_ne (fun z => ?_)]
      · exact e2
      · rw [z, f0] at e2
        cases e2
  · have e1 := xA.fsub u w e
    rw [ers_ne (fun z => by rw [z, oA.free h0] at e; cases e)]
    exact e1
  · obtain ⟨k1, k2⟩ := xA.keep u w hu fu np
    refine ⟨?_, ers_none k2⟩
    rw [same u (fun z => by rw [z, h0] at hu; cases hu) (fun z => by rw [z, ha] at hu; cases hu) (fun z => by rw [z, hp] at k1; cases k1)]
    exact k1
end
def sTold (w : WDO) (ta : WA) (i : Nat) (t1 : WT) (u1 : WS) (t2 : WT) (u2 : WS) : WS := fun PD env b => ta env b fun ss b1 => w ss b1 (fun _ _ => False) fun ds b2 =>
  t1 (env.set i (some (.l ds))) b2 fun k b3 => if k = true then u1 { PD with nx := fun _ _ => False } (env.set i (some (.l ds))) b3 else
  t2 (env.set i (some (.l ds))) b3 fun k b4 => if k = true then u2 { PD with nx := fun _ _ => False } (env.set i (some (.l ds))) b4 else
  i < env.length ∧ (∃ xs r, ds = .list xs :: r ∧ xs.length < sizeLine ∧ ds.length < sizeLine) ∧ PD.nx (env.set i none) b4
section
variable {X : Cx} {e : Expr} {es : List Expr} {t : WA} {i : Nat} {x y : Str} {p pos spos pos' py1 py2 sp a1 a2 c1p c2p q1 q2 q3 q4 lp : Pos} {f : Addr} {fd : FuncData} {ps : List Str} {k : Nat} {w : WDO} {c1 c2 e0 em : Expr} {p1 p2 : List Stmt} {t1 t2 : WT} {u1 u2 : WS} {m : Int}
theorem sb_told (G : FnOk X.prog X.w X.K X.mg X.base CX0 k f fd ps (spN X.K w)) (hr : Room k X.A) (hg : Gl X x) (hm : X.mg x = some (.ref f)) (hk : PySem.W.keepIn X.K (.ref f) = true) (hb : Binds X.K fd ps []) (ha : EA X (e :: es) t)
    (hN : X.N.Nodup) (hi : X.N[i]? = some y) (hy : Loc X.env.scope y) (h1 : ET X c1 t1) (r1 : SB X p1 u1) (h2 : ET X c2 t2) (r2 : SB X p2 u2)
    (hv1 : PE X (.Name y py1) (tVar i)) (hv2 : PE X (.Name y py2) (tVar i)) (h0 : PE X e0 (tC (.int 0))) (hpl0 : PlainIx e0) (hem : PE X em (tC (.int m)))
    (hdb : (x == ("__debug__" : Str)) = false := by decide)
    (he : starEach (e :: es) X.env = (false, eval e X.env) :: starEach es X.env := by rfl) (hpl : (backTo pos (starEach es X.env)).any (·.1) = false := by rfl) (hs : swapsWith (.Call (.Name x p) (e :: es) [] pos) (some (.Name y pos')) spos.line X.env = pure false := by rfl) (hf : X.fn y = true ∨ X.env.scope.names.lookup y = some .local := by first | exact .inl rfl | exact .inr rfl)
    (b1 : attributeBase (.Subscript (.Name y py1) e0 sp) "append" X.env (eval (.Subscript (.Name y py1) e0 sp) X.env) = eval (.Subscript (.Name y py1) e0 sp) X.env := by rfl)
    (few1 : ((backTo c1p (starEach [em] X.env)).all (fun x => !x.1) && (backToKw c1p (keywordEach [] X.env)).all (fun x => x.1.isSome) && decide ([em].length + ([] : List Keyword).length + (if ([] : List Keyword).isEmpty then 0 else 1) < 30)) = true := by rfl)
    (l1 : (a1.endLine == c1p.line) = true := by rfl) (s1 : starEach [em] X.env = (false, eval em X.env) :: starEach [] X.env := by rfl) (z1 : (backTo c1p (starEach [] X.env)).any (·.1) = false := by rfl)
    (w1 : swapsWith (.Call (.Attribute (.Subscript (.Name y py1) e0 sp) "append" a1) [em] [] c1p) none q3.line X.env = pure false := by rfl)
    (b2 : attributeBase (.Name y py2) "append" X.env (eval (.Name y py2) X.env) = eval (.Name y py2) X.env := by rfl)
    (few2 : ((backTo c2p (starEach [.List [] lp] X.env)).all (fun x => !x.1) && (backToKw c2p (keywordEach [] X.env)).all (fun x => x.1.isSome) && decide ([Expr.List [] lp].length + ([] : List Keyword).length + (if ([] : List Keyword).isEmpty then 0 else 1) < 30)) = true := by rfl)
    (l2 : (a2.endLine == c2p.line) = true := by rfl) (s2 : starEach [.List [] lp] X.env = (false, eval (.List [] lp) X.env) :: starEach [] X.env := by rfl) (z2 : (backTo c2p (starEach [] X.env)).any (·.1) = false := by rfl)
    (w2 : swapsWith (.Call (.Attribute (.Name y py2) "append" a2) [.List [] lp] [] c2p) none q4.line X.env = pure false := by rfl) :
    SB X [.Assign [.Name y pos'] (.Call (.Name x p) (e :: es) [] pos) spos, .If c1 p1 [] q1, .If c2 p2 [] q2,
      .Expr (.Call (.Attribute (.Subscript (.Name y py1) e0 sp) "append" a1) [em] [] c1p) q3,
      .Expr (.Call (.Attribute (.Name y py2) "append" a2) [.List [] lp] [] c2p) q4] (sTold w t i t1 u1 t2 u2) :=
  PSs.imp (pss_cons (ps_set hN hi hy (pe_call G hr hg hm hk hb .nil pass0 ha hdb he hpl) hs hf) (pss_cons (ps_if h1 r1 pss_nil) (pss_cons (ps_if h2 r2 pss_nil)
    (pss_cons (ps_expr (pe_bm PySem.F.plainAttrs_list PySem.F.slot_list_append PySem.F.type_list_append mt_append (pe_ix ix_list hv1 h0 hpl0) (pa_cons hem pa_nil s1) b1 few1 l1 s1 z1) w1)
    (pss_one (ps_expr (pe_bm PySem.F.plainAttrs_list PySem.F.slot_list_append PySem.F.type_list_append mt_append hv2 (pa_cons (pe_lst pa_nil) pa_nil s2) b2 few2 l2 s2 z2) w2))))))
    fun D σ H ⟨pn, F0, H0, F, env, b, PD, rep, t, kn, kr⟩ => by
    refine ⟨pn, F, env, b, _, rep.rep, t, fun vs ss FA HA bA oA xA ar tA => ⟨pn, FA, ss, bA, _, _, oA, by rw [List.append_nil]; exact ar, tA, fun v d F' H' b' o' e' rv q => q.elim,
      fun v ds F1 H1 b1 o1 x1 ow nw nv q => ?_⟩⟩
    have repA := rep.ext' oA xA
    have rep1 := (repA.ext' o1 x1).setL (i := i) ow (repA.fresh nw)
    refine ⟨pn, F1, _, b1, _, rep1.rep, q, fun kc F2 H2 b2 o2 x2 q2 => ?_⟩
    have rep2 := rep1.ext' o2 x2
    cases kc with
    | true => exact ⟨pn, F0, H0, F2, _, b2, _, rep2, q2, fun σ' F' H' env' b' rep' => ⟨fun z => z.elim, (kn σ' F' H' env' b' rep').2.1, (kn σ' F' H' env' b' rep').2.2⟩, kr⟩
    | false =>
      refine ⟨pn, F2, _, b2, _, rep2.rep, q2, fun kc F3 H3 b3 o3 x3 q3 => ?_⟩
      have rep3 := rep2.ext' o3 x3
      cases kc with
      | true => exact ⟨pn, F0, H0, F3, _, b3, _, rep3, q3, fun σ' F' H' env' b' rep' => ⟨fun z => z.elim, (kn σ' F' H' env' b' rep').2.1, (kn σ' F' H' env' b' rep').2.2⟩, kr⟩
      | false =>
        obtain ⟨hil, ⟨xs, r, rfl, hx, hd⟩, qn⟩ := q3
        obtain ⟨a, _, rfl, ha1, a0, rr, rfl, ha0⟩ := nv
        obtain ⟨a', vs', ea, fa1, np, nc, ha1', rvs⟩ := id ow
        cases ea
        rw [ha1] at ha1'
        cases ha1'
        cases rvs with
        | cons rv0 rvr =>
        cases rv0 with
        | @lst _ vs0 _ f0 rv0 =>
        have x13 := x2.trans x3
        obtain ⟨ha3, fa3⟩ := x13.keep a _ ha1 fa1 np
        have f03 := x13.fsub _ _ f0
        have hnA : HA a = none := nw a rfl
        have lσ : i < σ.length := by rw [rep.rep.len]; exact hil
        have sget : (σ.set i (some (V.ref a)))[i]? = some (some (V.ref a)) := List.getElem?_set_self lσ
        have aa : a ≠ a0 := fun z => by rw [z, f03] at fa3; cases fa3
        refine ⟨.ref a, sget, a, _, 0, .ref a0, rfl, rfl, SqL.of ha3, atI_nat (xs := .ref a0 :: rr) (j := 0) rfl, .inl ⟨rfl, vs0, SqL.of (o3.sub _ _ f03)⟩, a0, vs0, .int m, rfl, rfl, o3.sub _ _ f03, by rw [rv0.len]; exact hx, ?_⟩
        refine ⟨.ref a, sget, .inl ⟨rfl, _, SqL.of (by rw [upd_ne aa]; exact ha3)⟩, by decide, fun pp hpp => ?_⟩
        have pa0 : pp ≠ a0 := fun z => by rw [z, upd_same] at hpp; cases hpp
        have hpp3 : H3 pp = none := by rw [upd_ne pa0] at hpp; exact hpp
        have pa : pp ≠ a := fun z => by rw [z, ha3] at hpp3; cases hpp3
        refine ⟨a, _, .ref pp, rfl, rfl, by rw [upd_ne pa.symm, upd_ne aa]; exact ha3, ?_, ?_⟩
        · have := rvr.len
          simp only [List.length_cons] at hd ⊢
          omega
        · obtain ⟨o6, x6⟩ := take_out (a := a) (p := pp) (H6 := upd (upd (upd H3 a0 (.lst (vs0 ++ [.int m]))) pp (.lst [])) a (.lst (.ref a0 :: rr ++ [.ref pp]))) oA o3 (x1.trans x13) ha0 f03 hnA fa3 hpp3 (fun u n1 n2 n3 => by rw [upd_ne n2, upd_ne n3, upd_ne n1])
          exact (kn _ _ _ _ b3 (RepS.setZ (i := i) (v := .ref a) (repA.ext' o6 x6))).1 qn
end
section
variable {tl : WA} {t1 t2 : WT} {u1 u2 : WS} {env : En} {n i : Nat} {N : En → Nat → Prop} {R : PyData → Nat → Prop} {B C : En → Nat → Prop} {f : WDO}
theorem n_told (hi : i < env.length) (h : ME tl env n fun ss m => MDO f ss m (fun _ _ => False) (fun ds m1 => ME t1 (env.set i (some (.l ds))) m1 fun k m2 => k = false ∧ ME t2 (env.set i (some (.l ds))) m2 fun k2 m3 => k2 = false ∧
    (∃ xs r, ds = .list xs :: r ∧ xs.length < sizeLine ∧ ds.length < sizeLine) ∧ N (env.set i none) m3)) : MS (sTold f tl i t1 u1 t2 u2) env n N R B C :=
  fun PD b hb kn kr kb kc => h b _ hb fun ss m b1 q hb1 => q b1 _ _ hb1 (fun _ _ _ z _ => z.elim) fun ds m1 b2 q1 hb2 => q1 b2 _ hb2 fun k m2 b3 ⟨e1, q2⟩ hb3 => by
    subst e1
    refine q2 b3 _ hb3 fun k2 m3 b4 ⟨e2, q3, q4⟩ hb4 => ?_
    subst e2
    exact ⟨hi, q3, kn _ m3 b4 q4 hb4⟩
end
end Pu
namespace Pu
open PySem PySem.Spec PyProof.Rows L2 PuS
theorem perm_map_inv {α β : Type} {f : α → β} : ∀ {l : List α} {out : List β}, out.Perm (l.map f) → ∃ ms : List α, ms.Perm l ∧ out = ms.map f
  | [], out, h => ⟨[], .nil, by rw [List.map_nil] at h; exact h.eq_nil⟩
  | x :: l, out, h => by
    rw [List.map_cons] at h
    obtain ⟨a, b, rfl⟩ := List.append_of_mem (h.mem_iff.mpr List.mem_cons_self)
    have h2 : (a ++ b).Perm (l.map f) := (List.perm_middle.symm.trans h).cons_inv
    obtain ⟨ms, hm, e⟩ := perm_map_inv h2
    obtain ⟨ma, mb, e1, e2, e3⟩ := List.map_eq_append_iff.mp e.symm
    subst e1
    exact ⟨ma ++ x :: mb, List.perm_middle.trans (hm.cons x), by rw [List.map_append, List.map_cons, e2, e3]⟩
section
variable {P : Program} {w : World} {A : Around} {E : Value → Shared → Prop} {s : Shared}
/-- as sortedD, what is collected being known when it is -/
theorem sortedP {x : Value} {D : List PyData → Prop} {R0 : Value → PyData → Prop} {Q : Value → Shared → Prop} (hr : ∀ v d, R0 v d → ∃ as, Reads s.heap v d as) (hal : ∀ ds, D ds → W.AllAlike ds) (hk : ∀ ds, D ds → W.Sortable ds) (hL : ∀ ds, D ds → ds.length ≤ sizeLine) (hu : ∀ ds, D ds → ∀ d ∈ ds, A.units + 4 + d.depth < cLine)
    (hc : ∀ (R : List Value → Shared → Prop), (∀ (s1 : Shared) (vs : List Value) (ds : List PyData), D ds → (∀ b o, s.heap.get? b = some o → s1.heap.get? b = some o) → s1.gens = s.gens → s1.os = s.os → W.EachIs R0 vs ds → R vs s1) → wpAny (model P w) A.in1 (collect x) R E s)
    (ha : argsOk "sorted" ⟨[x], []⟩)
    (hQ : ∀ (s1 s' : Shared) (ds : List PyData) (p : Addr) (out : Array Value) (c : Nat), D ds → (∀ b o, s.heap.get? b = some o → s1.heap.get? b = some o) → s1.gens = s.gens → s1.os = s.os → (∀ b o, s1.heap.get? b = some o → s'.heap.get? b = some o) → s'.gens = s1.gens → s'.os = s1.os → s1.heap.objs.size ≤ p → s'.heap.get? p = some (seqObj "list" out c) → W.EachIs R0 out.toList (ds.mergeSort (W.dataLe false id)) → Q (.ref p) s') :
    wpAny (model P w) A (call (.builtin "sorted") [x]) Q E s := by
  refine Calls.call_function_entry kind_sorted plain_sorted entry_sorted ha ?_
  unfold Builtin.«sorted»
  refine wpAny_bind (m := checkCount "sorted" 1 1 _) (wpAny_pure ?_)
  refine wpAny_bind (hc _ fun s1 vs ds dd k1 g1 o1 each => ?_)
  have hal := hal ds dd
  have hk := hk ds dd
  have hL := hL ds dd
  have hu := hu ds dd
  have lv : vs.length = ds.length := each.length
  refine wpAny_bind (wpAny_newList ?_ (by rw [lv]; exact hL))
  have hoL : (s1.heap.push (seqObj "list" vs.toArray 0)).get? s1.heap.objs.size = some (seqObj "list" vs.toArray 0) := Heap.get?_push_size _ rfl
  have up : ∀ b o, s.heap.get? b = some o → (W.sortingHeap (s1.heap.push (seqObj "list" vs.toArray 0)) s1.heap.objs.size vs).get? b = some o := fun b o e => by
    have e1 := k1 b o e
    exact W.sortingHeap_old (Nat.ne_of_lt (Heap.lt_size e1)) (Heap.get?_push_of_some _ e1)
  have er : W.EachIs (fun v d => ∃ as, Reads (W.sortingHeap (s1.heap.push (seqObj "list" vs.toArray 0)) s1.heap.objs.size vs) v (id d) as) vs ds := each.mono fun v d h => let ⟨as, r⟩ := hr v d h; ⟨as, PyProof.Rows.Reads.keeps up r⟩
  have hal2 : W.AllAlike (ds.map id) := by rw [List.map_id]; exact hal
  have hk2 : W.Sortable (ds.map id) := by rw [List.map_id]; exact hk
  refine wpAny_bind (wpAny_holding (wpAny_call_entry slot_list_sort ⟨_, hoL, rfl⟩ entry_list_sort (W.list_sort_vals (κ := W.dataKind (W.sortingHeap (s1.heap.push (seqObj "list" vs.toArray 0)) s1.heap.objs.size vs) (ds.map id)) hoL
    (W.SortsAt.data (s := { s1 with heap := W.sortingHeap (s1.heap.push (seqObj "list" vs.toArray 0)) s1.heap.objs.size vs }) (W.each_map (R := fun v d => ∃ as, Reads (W.sortingHeap (s1.heap.push (seqObj "list" vs.toArray 0)) s1.heap.objs.size vs) v d as) id er) hal2 hk2 (W.bound_map fun d hd => ?_)) (by rw [lv]; exact hL) ⟨_, rfl, ?_⟩) (args_list_sort _)))
  · have := hu d hd
    show A.units + 1 + 1 + d.depth < cLine
    omega
  · have so := W.sortVals_data false each er hal2
    generalize W.sortVals _ false vs vs = out at so ⊢
    obtain ⟨c, hcc⟩ := sortedHeap_at (vs := vs) (out := out.toArray) hoL
    refine wpAny_pure ⟨_, rfl, hQ s1 _ ds s1.heap.objs.size out.toArray c dd k1 g1 o1 (fun b u q => ?_) rfl rfl (Nat.le_refl _) hcc (by simpa using so)⟩
    have hlt := Heap.lt_size q
    show (sortedHeap (s1.heap.push (seqObj "list" vs.toArray 0)) s1.heap.objs.size vs out.toArray).get? b = some u
    rw [sortedHeap_old (Nat.ne_of_lt hlt) (by rw [size_push']; exact Nat.lt_succ_of_lt hlt)]
    exact Heap.get?_push_of_some _ q
end
def pSortSetT : PyData → (List PyData → Prop) → Prop := fun x P => ∃ ns : List (List Key), x = .list (ns.map tK) ∧ ns.length < 64 ∧ (∀ ms : List (List Key), (∀ k ∈ ms, k ∈ ns) → W.AllAlike (ms.map tK) ∧ W.Sortable (ms.map tK)) ∧ (∀ k ∈ ns, (tK k).depth ≤ 40) ∧
  ∀ ms : List (List Key), ms.Perm (dist ns) → P (srt (ms.map tK))
section
variable {K : PySem.W.Frag} {F : Hp}
theorem rvs_ktupsP : ∀ {ns : List (List Key)} {vs : List V}, RVs K F vs (ns.map tK) → ∃ ks : List (Addr × List Key), vs = ks.map (fun p => V.ref p.1) ∧ ks.map (·.2) = ns ∧ ∀ p ∈ ks, SqT K F p.1 (p.2.map kV) ∧ RV K F (.ref p.1) (tK p.2)
  | [], _, .nil => ⟨[], rfl, rfl, fun p h => absurd h List.not_mem_nil⟩
  | n :: ns, _, .cons r t => by
    obtain ⟨ks, e1, e2, e3⟩ := rvs_ktupsP t
    have r0 := r
    cases r with
    | tup h q =>
      rename_i a xs
      rw [rvs_keys q] at h
      exact ⟨(a, n) :: ks, by rw [e1]; rfl, by rw [← e2]; rfl, fun p hp => (List.mem_cons.mp hp).elim (fun e => by rw [e]; exact ⟨h.sq, r0⟩) (e3 p)⟩
end
section
variable {X : Cx} {a : Expr} {ta : WE} {p p2 q pos : Pos}
open PuT in
theorem f_sortSetT (hu : X.A.units + 64 < cLine) (hc : X.calm = true) (hg : Gl X "sorted") (hm : X.mg "sorted" = none) (hg2 : Gl X "set") (hm2 : X.mg "set" = none) (ha : EB X a ta) (na : starEach [a] X.env = (false, eval a X.env) :: starEach [] X.env := by rfl) :
    EF X (.Call (.Name "sorted" p) [.Call (.Name "set" p2) [a] [] q] [] pos) (w1L pSortSetT ta) := by
  refine ⟨fun pins s σ H Q I h => ?_⟩
  obtain ⟨pn, F, env, b, P, rep, t, k⟩ := h
  refine Call_ (ld_blt I hg hm boot_sorted2 (PyProof.Rows.callWith_builtin1 (PyProof.Rows.args_cons (Call_ (ld_blt I hg2 hm2 boot_set ?_)) rfl) rfl rfl))
  refine PyProof.Rows.callWith_type1 (PyProof.Rows.args_cons (thn (ha.run pins s σ H (fun v H1 => ∃ d F1 b1, Ok pn b1 F1 H1 ∧ Ext pn F H F1 H1 ∧ BV X.K pn F1 H1 v d ∧ pSortSetT d fun z => P z b1) I ⟨pn, F, env, b, _, rep, t, fun v d F1 H1 b1 o1 e1 rv q => ⟨d, F1, b1, o1, e1, rv, q⟩⟩) fun v s1 ⟨x, H1, I1, r1, q1⟩ => PyProof.Rows.args_nil ?_) na) na rfl
  obtain ⟨d, F1, b1, o1, e1, bv, ns, rfl, few, al, dp, q⟩ := q1
  obtain ⟨l, vs, rfl, hl, rvs⟩ := bv.list o1
  cases r1
  obtain ⟨its, rv, pl, hz⟩ := I1.list (SqL.of hl)
  obtain ⟨ks, e2, e3, e4⟩ := rvs_ktupsP rvs
  subst e3
  subst e2
  rw [List.length_map] at few
  have each : ∀ p ∈ ks, TKy X.prog X.w s1.heap p.2 p.1 := fun p hp => tky_of I1 (Same.tup o1.sub (e4 p hp).1)
  refine callF (updT_list (I1.ok.hd hc) (by omega) pl.isList (by simpa using refsK rv) each few) fun h' tk R => PyProof.Rows.args_nil ?_
  have I2 : Inv X pins σ H1 { s1 with heap := h', toks := tk } := I1.kept fun b o e => R.1 b o e
  obtain ⟨_, m, rows, ep, t', r1, r2, r3, r4⟩ := R
  rw [List.take_length] at r4
  have hmp : (m.map (·.2)).Perm (dist (ks.map (·.2))) := (List.perm_ext_iff_of_nodup r1.once (PuS.dist_nodup _)).mpr fun z => (r4 z).trans PuS.mem_dist.symm
  have D2 : ∀ ms : List (Addr × List Key), ms.Perm m → (∀ k ∈ ms.map (·.2), k ∈ ks.map (·.2)) := fun ms h k hk => by
    obtain ⟨y, hy, rfl⟩ := List.mem_map.mp hk
    exact List.mem_map_of_mem (r3 y (h.mem_iff.mp hy))
  have m64 := r1.most
  have lz : ∀ ms : List (Addr × List Key), ms.Perm m → ms.length ≤ sizeLine := fun ms h => by rw [h.length_eq, sizeLine_eq]; omega
  refine sortedP (D := fun ds => ∃ ms : List (Addr × List Key), ds = (ms.map (·.2)).map tK ∧ ms.Perm m) (R0 := Stands X.K F1) (fun u y ⟨w, rw_, rd⟩ => let ⟨as, ra, _⟩ := reads_of I2 o1.sub rd rw_; ⟨as, ra⟩)
    (fun ds ⟨ms, e, h⟩ => by subst e; exact (al _ (D2 ms h)).1) (fun ds ⟨ms, e, h⟩ => by subst e; exact (al _ (D2 ms h)).2) (fun ds ⟨ms, e, h⟩ => by subst e; rw [List.length_map, List.length_map]; exact lz ms h) (fun ds ⟨ms, e, h⟩ y hy => ?_)
    (fun R hR => ?_) (args_sorted1 _) fun s2 s3 ds p out c ⟨ms, eds, hms⟩ k1 g1 z1 k2 g2 z2 hp ha2 ho => ?_
  · subst e
    obtain ⟨k, hk, rfl⟩ := List.mem_map.mp hy
    have := dp k (D2 ms h k hk)
    omega
  · obtain ⟨o, o1', o2', o3'⟩ := r1.obj
    refine collect_set (A := X.A.in1) (I1.ok.hd hc) ⟨o, o1', o2'.1, o3'⟩ r1.fitH (by rw [eqs_len r1.eqs]; unfold scanBound; omega) r1.good.ris r1.ledg fun s' out k1 hz' g1 oo pm => ?_
    have em : rows.toList.map (·.2) = m.map fun q => Value.ref q.1 := by rw [r1.eqs, List.map_map]; rfl
    rw [em] at pm
    obtain ⟨ms, hms, rfl⟩ := perm_map_inv pm
    refine hR s' _ ((ms.map (·.2)).map tK) ⟨ms, rfl, hms⟩ k1 g1 oo ?_
    have hin : ∀ y ∈ ms, y ∈ ks := fun y hy => r3 y (hms.mem_iff.mp hy)
    clear pm hms
    induction ms with
    | nil => exact .nil
    | cons y l ih => exact .cons ⟨.ref y.1, rfl, (e4 y (hin y List.mem_cons_self)).2⟩ (ih fun z hz => hin z (List.mem_cons_of_mem _ hz))
  · obtain ⟨ws, hv, hr⟩ := of_stands ho
    subst eds
    have hok2 : HOk X.prog X.w H1 s2.heap := I2.hok.kept k1
    have hn : H1 p = none := hok2.fresh hp
    have lw : ws.length ≤ sizeLine := by
      rw [hr.len]
      show (List.mergeSort _ _).length ≤ sizeLine
      rw [List.length_mergeSort, List.length_map, List.length_map]
      exact lz ms hms
    have J : Inv X pins σ (upd H1 p (.lst ws)) s3 := I2.call' (ch := []) (z2.trans z1) (Un.trans (Un.kept k1) (Un.laid k2 hp hn)) (hok2.laid k2 hp ⟨lw, out.toList, c, hv, ha2⟩) (by rw [g2, g1]; exact I2.bare) (fun _ z => nomatch z)
    have g : GoL X.K pn b1 F1 H1 (fun d => P d b1) Q := fun w z F' H' o3 e3 rv nw pz => k w z F' H' b1 o3 (e1.trans e3) rv (fun a e => e1.back rep.ok o1 (nw a e)) pz
    have qq := q (ms.map fun y : Addr × List Key => y.2) ((hms.map _).trans hmp)
    exact ⟨.ref p, _, J, rfl, g.lst o1 hr qq p hn⟩
end
section
variable {ta : WE} {env : En} {n : Nat}
theorem m_sortSetT {QL : List PyData → Nat → Prop} (h : ME ta env n fun d m => ∃ ns : List (List Key), d = .list (ns.map tK) ∧ ns.length < 64 ∧ (∀ ms : List (List Key), (∀ k ∈ ms, k ∈ ns) → W.AllAlike (ms.map tK) ∧ W.Sortable (ms.map tK)) ∧ (∀ k ∈ ns, (tK k).depth ≤ 40) ∧
    ∀ ms : List (List Key), ms.Perm (dist ns) → QL (srt (ms.map tK)) m) : ME (w1L pSortSetT ta) env n QL :=
  fun b P hb k => h b _ hb fun d m b1 ⟨ns, e, few, al, dp, q⟩ hb1 => ⟨ns, e, few, al, dp, fun ms hm => k _ m b1 (q ms hm) hb1⟩
end
end Pu
namespace Lw
open PySem PySem.Spec PyProof.Rows L2 Pu
def topS (i : Nat) : Stmt := PySem.Challenge.pw_openties_k10_first_scripts.main.body.getD i (.Pass ⟨0, 0, 0, 0⟩)
abbrev s__law_open : Stmt := topS 20
abbrev s__law_spread : Stmt := topS 21
abbrev s__law_take : Stmt := topS 22
abbrev s__law_subset : Stmt := topS 24
abbrev s__law_draw_schema : Stmt := topS 26
abbrev s__law_cells : Stmt := topS 27
abbrev s__law_one_way : Stmt := topS 36
abbrev s__law_first : Stmt := topS 37
abbrev s__law_mixed : Stmt := topS 25
abbrev s__law_draw_step : Stmt := topS 32
abbrev s__law_draw_report : Stmt := topS 33
abbrev s__law_fits : Stmt := topS 28
abbrev s__law_draw_table : Stmt := topS 29
abbrev s_projected : Stmt := topS 5
abbrev s__group_row : Stmt := topS 18
abbrev s__grouped : Stmt := topS 17
abbrev s_stable_permutation : Stmt := topS 13
abbrev s_rows_after : Stmt := topS 14
abbrev s_kept_after : Stmt := topS 8
abbrev s_first_script : Stmt := topS 11
abbrev s__law_same : Stmt := topS 23
abbrev s_is_plain_integer : Stmt := topS 4
abbrev s_is_permutation : Stmt := topS 12
abbrev s__permuted : Stmt := topS 15
abbrev s__sorted_by_script : Stmt := topS 16
abbrev s_run : Stmt := topS 10
abbrev s__law_kept : Stmt := topS 34
abbrev s__law_ended : Stmt := topS 35
abbrev s_law : Stmt := topS 38
end Lw
namespace Lw
open PySem PySem.Spec PyProof.Rows L2 Pu
def f__law_open : He.DefD := ⟨("_law_open", none), "_law_open", "_law_open", defArgs s__law_open, defBody s__law_open, defScope s__law_open, [], []⟩
def f__law_spread : He.DefD := ⟨("_law_spread", none), "_law_spread", "_law_spread", defArgs s__law_spread, defBody s__law_spread, defScope s__law_spread, [], []⟩
def f__law_take : He.DefD := ⟨("_law_take", none), "_law_take", "_law_take", defArgs s__law_take, defBody s__law_take, defScope s__law_take, [], []⟩
def f__law_subset : He.DefD := ⟨("_law_subset", none), "_law_subset", "_law_subset", defArgs s__law_subset, defBody s__law_subset, defScope s__law_subset, [], []⟩
def f__law_draw_schema : He.DefD := ⟨("_law_draw_schema", none), "_law_draw_schema", "_law_draw_schema", defArgs s__law_draw_schema, defBody s__law_draw_schema, defScope s__law_draw_schema, [], []⟩
def f__law_cells : He.DefD := ⟨("_law_cells", none), "_law_cells", "_law_cells", defArgs s__law_cells, defBody s__law_cells, defScope s__law_cells, [], []⟩
def f__law_one_way : He.DefD := ⟨("_law_one_way", none), "_law_one_way", "_law_one_way", defArgs s__law_one_way, defBody s__law_one_way, defScope s__law_one_way, [], []⟩
def f__law_first : He.DefD := ⟨("_law_first", none), "_law_first", "_law_first", defArgs s__law_first, defBody s__law_first, defScope s__law_first, [], []⟩
def f__law_mixed : He.DefD := ⟨("_law_mixed", none), "_law_mixed", "_law_mixed", defArgs s__law_mixed, defBody s__law_mixed, defScope s__law_mixed, [], []⟩
def f__law_draw_step : He.DefD := ⟨("_law_draw_step", none), "_law_draw_step", "_law_draw_step", defArgs s__law_draw_step, defBody s__law_draw_step, defScope s__law_draw_step, [], []⟩
def f__law_draw_report : He.DefD := ⟨("_law_draw_report", none), "_law_draw_report", "_law_draw_report", defArgs s__law_draw_report, defBody s__law_draw_report, defScope s__law_draw_report, [], []⟩
def f__law_fits : He.DefD := ⟨("_law_fits", none), "_law_fits", "_law_fits", defArgs s__law_fits, defBody s__law_fits, defScope s__law_fits, [], []⟩
def f__law_draw_table : He.DefD := ⟨("_law_draw_table", none), "_law_draw_table", "_law_draw_table", defArgs s__law_draw_table, defBody s__law_draw_table, defScope s__law_draw_table, [], []⟩
def f_projected : He.DefD := ⟨("projected", none), "projected", "projected", defArgs s_projected, defBody s_projected, defScope s_projected, [], []⟩
def f__group_row : He.DefD := ⟨("_group_row", none), "_group_row", "_group_row", defArgs s__group_row, defBody s__group_row, defScope s__group_row, [], []⟩
def f__grouped : He.DefD := ⟨("_grouped", none), "_grouped", "_grouped", defArgs s__grouped, defBody s__grouped, defScope s__grouped, [], []⟩
def f_stable_permutation : He.DefD := ⟨("stable_permutation", none), "stable_permutation", "stable_permutation", defArgs s_stable_permutation, defBody s_stable_permutation, defScope s_stable_permutation, [], []⟩
def f_rows_after : He.DefD := ⟨("rows_after", none), "rows_after", "rows_after", defArgs s_rows_after, defBody s_rows_after, defScope s_rows_after, [], []⟩
def f_kept_after : He.DefD := ⟨("kept_after", none), "kept_after", "kept_after", defArgs s_kept_after, defBody s_kept_after, defScope s_kept_after, [], []⟩
def f_first_script : He.DefD := ⟨("first_script", none), "first_script", "first_script", defArgs s_first_script, defBody s_first_script, defScope s_first_script, [], []⟩
def f__law_same : He.DefD := ⟨("_law_same", none), "_law_same", "_law_same", defArgs s__law_same, defBody s__law_same, defScope s__law_same, [], []⟩
def f_is_plain_integer : He.DefD := ⟨("is_plain_integer", none), "is_plain_integer", "is_plain_integer", defArgs s_is_plain_integer, defBody s_is_plain_integer, defScope s_is_plain_integer, [], []⟩
def f_is_permutation : He.DefD := ⟨("is_permutation", none), "is_permutation", "is_permutation", defArgs s_is_permutation, defBody s_is_permutation, defScope s_is_permutation, [], []⟩
def f__permuted : He.DefD := ⟨("_permuted", none), "_permuted", "_permuted", defArgs s__permuted, defBody s__permuted, defScope s__permuted, [], []⟩
def f__sorted_by_script : He.DefD := ⟨("_sorted_by_script", none), "_sorted_by_script", "_sorted_by_script", defArgs s__sorted_by_script, defBody s__sorted_by_script, defScope s__sorted_by_script, [], []⟩
def f_run : He.DefD := ⟨("run", none), "run", "run", defArgs s_run, defBody s_run, defScope s_run, [], []⟩
def f__law_kept : He.DefD := ⟨("_law_kept", none), "_law_kept", "_law_kept", defArgs s__law_kept, defBody s__law_kept, defScope s__law_kept, [], []⟩
def f__law_ended : He.DefD := ⟨("_law_ended", none), "_law_ended", "_law_ended", defArgs s__law_ended, defBody s__law_ended, defScope s__law_ended, [], []⟩
def f_law : He.DefD := ⟨("law", none), "law", "law", defArgs s_law, defBody s_law, defScope s_law, [], []⟩
def fn : List He.DefD := [f__law_open, f__law_spread, f__law_take, f__law_subset, f__law_draw_schema, f__law_cells, f__law_one_way, f__law_first, f__law_mixed, f__law_draw_step, f__law_draw_report, f__law_fits, f__law_draw_table, f_projected, f__group_row, f__grouped, f_stable_permutation, f_rows_after, f_kept_after, f_first_script, f__law_same, f_is_plain_integer, f_is_permutation, f__permuted, f__sorted_by_script, f_run, f__law_kept, f__law_ended, f_law]
def fa : List He.Fa := [.glo "_law_open", .glo "_law_spread", .glo "_law_take", .glo "_law_subset", .glo "_law_draw_schema", .glo "_law_cells", .glo "_law_one_way", .glo "_law_first", .glo "_law_mixed", .glo "_law_draw_step", .glo "_law_draw_report", .glo "_law_fits", .glo "_law_draw_table", .glo "projected", .glo "_group_row", .glo "_grouped", .glo "stable_permutation", .glo "rows_after", .glo "kept_after", .glo "first_script", .glo "_law_same", .glo "is_plain_integer", .glo "is_permutation", .glo "_permuted", .glo "_sorted_by_script", .glo "run", .glo "_law_kept", .glo "_law_ended", .glo "law", .free "all", .free "bool", .free "enumerate", .free "int", .free "isinstance", .free "len", .free "list", .free "range", .free "repr", .free "set", .free "sorted", .free "str", .free "sum", .free "tuple", .free "zip", .glo "SORTING"]
def tb : Tbl := [("SORTING", [(.str "sort"), (.str "stable")])]
def tq : TQ := [(("_law_one_way", none), "_law_one_way.<locals>.<lambda>"), (("_law_first", none), "_law_first.<locals>.<lambda>"), (("stable_permutation", none), "stable_permutation.<locals>.<lambda>")]
def looseN : List PySem.Str := (["OpentiesError", "InvalidScript", "is_plain_integer", "projected", "SORTING", "kept_after", "run", "first_script", "is_permutation", "stable_permutation", "rows_after", "_permuted", "_sorted_by_script", "_grouped", "_group_row", "_law_open", "_law_spread", "_law_take", "_law_same", "_law_subset"] : List PySem.Str) ++ (["_law_mixed", "_law_draw_schema", "_law_cells", "_law_fits", "_law_draw_table", "_law_all_in", "_law_closure", "_law_draw_step", "_law_draw_report", "_law_kept", "_law_ended", "_law_one_way", "_law_first"] : List PySem.Str)
abbrev R : PySem.W.OpenRow := PySem.W.OpenLaw.row PySem.Challenge.rw_openties_k10_first_scripts
abbrev hk : PySem.W.Hook := hookH 4 fa fn tb tq
def ob (s : PySem.W.SharedT) : Bool × Bool × Bool × He.AlD := obsHG 4 fa fn tb tq (HandSHeadRun.getT s)
theorem ob_eq (s : PySem.W.SharedT) : ob s = hk.obs s.abs := obsHG_eq (HandSHeadRun.getT_eq s)
set_option maxHeartbeats 0 in
theorem run (w : World) : HandSHeadRun.RunEq R (PySem.W.view R.prog [38]) hk ob 4000 looseN w := by
  intro os
  kernel_rfl
end Lw
namespace Lw
open PySem PySem.Spec PyProof.Rows L2 Pu
def t__law_spread : WS := (sSeq (sIf (wTt (wOp pGe (wVar 0) (wOp pPow (wC (.int 10)) (wC (.int 18)))))
  (sRet (wVal 0))
  sNext)
  (sSeq (sSet (fz (wLst (wCons (wC (.int 2147483629)) (wCons (wC (.int 2147483587)) (wCons (wC (.int 2147483579)) (wCons (wC (.int 2147483563)) (wCons (wC (.int 2147483549)) (wCons (wC (.int 2147483543)) (wCons (wC (.int 2147483497)) (wCons (wC (.int 2147483489)) wNil)))))))))) 2)
  (sSeq (sSet (wOp pAdd (wVar 2) (fz (wLst (wCons (wC (.int 2147483477)) (wCons (wC (.int 2147483423)) (wCons (wC (.int 2147483399)) (wCons (wC (.int 2147483353)) (wCons (wC (.int 2147483323)) wNil)))))))) 2)
  (sSeq (sSet (wOp pMod (wOp pPow (wOp pAdd (wOp pAdd (wOp pMulT (wOp pMod (wVar 0) (wC (.int 1000000007))) (wOp pAdd (wOp pMulT (wC (.int 2)) (wVar 1)) (wC (.int 69069)))) (wOp pMulT (wVar 1) (wC (.int 40503)))) (wC (.int 977))) (wC (.int 3))) (wOp pIx (wVar 2) (wOp pMod (wVar 1) (wC (.int 13))))) 3)
  (sSeq (sSet (wOp pMod (wOp pPow (wOp pAdd (wOp pAdd (wOp pMulT (wVar 3) (wOp pAdd (wVar 1) (wC (.int 3)))) (wOp pMod (wVar 0) (wC (.int 65537)))) (wC (.int 5))) (wC (.int 5))) (wOp pIx (wVar 2) (wOp pMod (wOp pAdd (wVar 1) (wC (.int 5))) (wC (.int 13))))) 4)
  (sSeq (sSet (wOp pMod (wOp pPow (wOp pAdd (wOp pAdd (wVar 4) (wOp pMod (wVar 3) (wC (.int 1009)))) (wVar 1)) (wC (.int 3))) (wOp pIx (wVar 2) (wOp pMod (wOp pAdd (wVar 1) (wC (.int 7))) (wC (.int 13))))) 5)
  (sRet (wOp pAdd (wOp pMulT (wOp pAdd (wOp pMulT (wVar 3) (wC (.int 2147483647))) (wVar 4)) (wC (.int 2147483647))) (wVar 5)))))))))
def w__law_spread : WD := wDef 2 6 t__law_spread
/-- a draw: any number below the amount -/
def w__law_take : WD := fun ss b P => ∃ n : Int, ss = [.p, .d (.int n)] ∧ 0 < n ∧ n < 1073741824 ∧ 0 < b ∧ ∀ r : Int, 0 ≤ r → r < n → P (.int r) (b - 1)
def t__law_subset : WS := (sRet (wMS pJoin (wC (.str "")) (fz (fLc (wSeq (wVar 1)) (.nm 2) (wTt (wOp pEq2 (wCall w__law_take (wAName 0 (wACons (wC (.int 2)) wANil))) (wC (.int 0)))) (wVal 2) [2]))))
def w__law_subset : WD := wDef 2 3 t__law_subset
def t__law_draw_schema : WS := (sSeq (sSet (wOp pIx (fz (wLst (wCons (wC (.str "abcde")) (wCons (wC (.str "acxyz")) (wCons (wC (.str "bdeqz")) (wCons (wC (.str "hijkl")) (wCons (wC (.str "gnopr")) (wCons (wC (.str "rsuvw")) (wCons (wC (.str "fmtwy")) wNil))))))))) (wCall w__law_take (wAName 0 (wACons (wC (.int 7)) wANil)))) 2)
  (sSeq (sAsg (wTup (wCons (wSl (wVar 2) wNoPart (wPart (wOp pAdd (wC (.int 1)) (wCall w__law_take (wAName 0 (wAName 1 wANil)))))) (wCons (fz (wLst wNil)) (wCons (fz (wLst wNil)) wNil)))) (.tp [3, 4, 5]))
  (sSeq (sFor (wRng1 (wOp pIx (fz (wLst (wCons (wC (.int 0)) (wCons (wC (.int 0)) (wCons (wC (.int 1)) (wCons (wC (.int 2)) (wCons (wC (.int 3)) wNil))))))) (wCall w__law_take (wAName 0 (wACons (wC (.int 5)) wANil))))) (.nm 6)
  (sPick 3 0 7 8 w__law_take w__law_subset (sSet (wOp pAdd (wVar 4) (wOp pMulT (fz (wLst (wCons (wTup (wCons (wVal 8) (wCons (wVal 7) wNil))) wNil))) (w1 pInt (wOp (pIn2 true) (wTup (wCons (wVal 8) (wCons (wVal 7) wNil))) (wVar 4))))) 4)))
  (sSeq (sIf (wTt (wOp pEq2 (wCall w__law_take (wAName 0 (wACons (wC (.int 6)) wANil))) (wC (.int 0))))
  (sSeq (sSet (w1 pRevE (fz (fLc (wRng1 (wOp pSub (w1 pLen (wVar 3)) (wC (.int 1)))) (.nm 10) wYes (wTup (wCons (wOp pIx (wVar 3) (wVar 10)) (wCons (wOp pIx (wVar 3) (wOp pAdd (wVar 10) (wC (.int 1)))) wNil))) [10]))) 4)
  (sSet (wOp pAdd (wVar 4) (wOp pMulT (fz (wLst (wCons (wTup (wCons (wC (.str "")) (wCons (wOp pIx (wVar 3) (wC (.int 0))) wNil))) wNil))) (wCall w__law_take (wAName 0 (wACons (wC (.int 2)) wANil))))) 4))
  sNext)
  (sSeq (sFor (wRng1 (wOp pIx (fz (wLst (wCons (wC (.int 0)) (wCons (wC (.int 0)) (wCons (wC (.int 1)) (wCons (wC (.int 2)) wNil)))))) (wCall w__law_take (wAName 0 (wACons (wC (.int 4)) wANil))))) (.nm 6)
  (sSeq (sSet (wOrE (wCall w__law_subset (wAName 0 (wAName 3 wANil))) (wOp pIx (wVar 3) (wNeg (wC (.int 1))))) 9)
  (sSet (wOp pAdd (wVar 5) (wOp pMulT (fz (wLst (wCons (wVal 9) wNil))) (w1 pInt (wOp (pIn2 true) (wVar 9) (wVar 5))))) 5)))
  (sRet (wTup (wCons (wVal 3) (wCons (w1 pTupA (wVar 4)) (wCons (w1 pTupA (wVar 5)) wNil))))))))))
def w__law_draw_schema : WD := wDef 2 11 t__law_draw_schema
def t__law_mixed : WS := (sSeq (sSet (wC (.str "")) 2)
  (sSeq (sFor (wSeq (wVal 1)) (.nm 3)
  (sSeq (sSet (wCall w__law_take (wAName 0 (wACons (wOp pAdd (w1 pLen (wVar 2)) (wC (.int 1))) wANil))) 4)
  (sSet (wOp pAdd (wOp pAdd (wSl (wVar 2) wNoPart (wPart (wVar 4))) (wVar 3)) (wSl (wVar 2) (wPart (wVar 4)) wNoPart)) 2)))
  (sRet (wVal 2))))
def w__law_mixed : WD := wDef 2 5 t__law_mixed
def t__law_draw_step : WS := (sSeq (sSet (wCall w__law_take (wAName 0 (wACons (wC (.int 9)) wANil))) 4)
  (sSeq (sIf (wAndT (wTt (wOp pLt (wVar 4) (wC (.int 4)))) (wNotT (wTru (wVar 2))))
  (sSeq (sSet (wCall w__law_mixed (wAName 0 (wACons (wOrE (wCall w__law_subset (wAName 0 (wAName 1 wANil))) (wSl (wVar 1) wNoPart (wPart (wC (.int 1))))) wANil))) 5)
  (sRet (wTup (wCons (wOp pIx (fz (wLst (wCons (wC (.str "sort")) (wCons (wC (.str "sort")) (wCons (wC (.str "sort")) (wCons (wC (.str "stable")) wNil)))))) (wVar 4)) (wCons (wVal 5) wNil)))))
  sNext)
  (sSeq (sIf (wAndT (wTt (wOp pLt (wVar 4) (wC (.int 6)))) (wTru (wVar 2)))
  (sRet (wTup (wCons (wOp pIx (fz (wLst (wCons (wC (.str "first")) (wCons (wC (.str "first")) (wCons (wC (.str "skip")) wNil))))) (wOp pMod (wVar 4) (wC (.int 3)))) (wCons (wCall w__law_take (wAName 0 (wACons (wOp pIx (fz (wLst (wCons (wVal 3) (wCons (wVal 3) (wCons (wVal 3) (wCons (wC (.int 21)) wNil)))))) (wCall w__law_take (wAName 0 (wACons (wC (.int 4)) wANil)))) wANil))) wNil))))
  sNext)
  (sSeq (sIf (wTt (wOp pEq2 (wVar 4) (wC (.int 8))))
  (sRet (wTup (wCons (wC (.str "columns")) (wCons (wOrE (wCall w__law_subset (wAName 0 (wAName 1 wANil))) (wVal 1)) wNil))))
  sNext)
  (sRet (wTup (wCons (wC (.str "where")) (wCons (wOp pIx (wVar 1) (wCall w__law_take (wAName 0 (wACons (w1 pLen (wVar 1)) wANil)))) (wCons (wOp pSub (wCall w__law_take (wAName 0 (wACons (wC (.int 3)) wANil))) (wOp pIx (fz (wLst (wCons (wC (.int 0)) (wCons (wC (.int 2)) (wCons (wC (.int 11)) (wCons (wNeg (wC (.int 8))) (wCons (wNeg (wC (.int 1000))) wNil))))))) (wCall w__law_take (wAName 0 (wACons (wC (.int 5)) wANil))))) wNil)))))))))
def w__law_draw_step : WD := wDef 4 6 t__law_draw_step
def t__law_draw_report : WS := (sSeq (sParL 4 5 (wOp pIx (wVar 1) (wC (.int 0))) (wLst wNil))
  (sSeq (sSet (wCall w__law_take (wAName 0 (wACons (wOp pAdd (wVar 2) (wC (.int 1))) wANil))) 6)
  (sSeq (sFor (wRng1 (wCall w__law_take (wAName 0 (wACons (wOp pAdd (wVar 2) (wC (.int 1))) wANil)))) (.nm 7)
  (sSeq (sSet (wCall w__law_draw_step (wAName 0 (wAName 4 (wACons (wOp pGe (wVar 7) (wVar 6)) (wAName 3 wANil))))) 8)
  (sSeq (sSet (wIfE (wTt (wOp pEq2 (wOp pIx (wVar 8) (wC (.int 0))) (wC (.str "columns")))) (wOp pIx (wVar 8) (wC (.int 1))) (wVal 4)) 4)
  (sApp 5 (wVal 8)))))
  (sSeq (sSet (wCall w__law_take (wAName 0 (wACons (wC (.int 8)) wANil))) 9)
  (sSeq (sSet (wOrE (wCall w__law_subset (wAName 0 (wAName 4 wANil))) (wOp pIx (wVar 4) (wNeg (wC (.int 1))))) 10)
  (sSeq (sSet (fz (fLc (wSeq (wVar 4)) (.nm 12) (wTt (wOp (pIn2 true) (wVar 12) (wVar 10))) (wVal 12) [12])) 11)
  (sSeq (sIf (wTt (wOp pEq2 (wVar 9) (wC (.int 0))))
  (sApp 5 (wTup (wCons (wC (.str "count")) (wCons (wVal 10) wNil))))
  (sIf (wAndT (wTt (wOp pEq2 (wVar 9) (wC (.int 1)))) (wTt (wOp pNe2 (wVar 11) (fz (wLst wNil)))))
  (sApp 5 (wTup (wCons (wC (.str "sum")) (wCons (wVal 10) (wCons (wOp pIx (wVar 11) (wCall w__law_take (wAName 0 (wACons (w1 pLen (wVar 11)) wANil)))) wNil)))))
  (sIf (wTt (wOp pEq2 (wVar 9) (wC (.int 2))))
  (sApp 5 (wTup (wCons (wC (.str "heads")) (wCons (wVal 10) wNil))))
  sNext)))
  (sRet (w1 pTupA (wVar 5))))))))))
def w__law_draw_report : WD := wDef 4 13 t__law_draw_report
def d_SORTING : PyData := .tuple [.str "sort", .str "stable"]
def t__law_same (w : WD) : WS := (sSeq (sIf (wOrT (wTt (wOp (pIs false) (wVar 1) (wC .none))) (wTt (wOp (pIs false) (wVar 0) (wC .none))))
  (sRet (wAndE (wOp (pIs false) (wVar 1) (wC .none)) (wOp (pIs false) (wVar 0) (wC .none))))
  sNext)
  (sSeq (sIf (wOrT (wTru (w1 (pIsi ["bool"]) (wVar 1))) (wTru (w1 (pIsi ["bool"]) (wVar 0))))
  (sRet (wAndE (w1 (pIsi ["bool"]) (wVar 1)) (wAndE (w1 (pIsi ["bool"]) (wVar 0)) (wOp pEq2 (wVar 0) (wVar 1)))))
  sNext)
  (sSeq (sIf (wTru (w1 (pIsi ["int", "str"]) (wVar 1)))
  (sSeq (sIf (wTt (wOp pNe2 (w1 (pIsi ["int"]) (wVar 0)) (w1 (pIsi ["int"]) (wVar 1))))
  (sRet (wC (.bool false)))
  sNext)
  (sRet (wAndE (w1 (pIsi ["int", "str"]) (wVar 0)) (wOp pEq2 (wVar 0) (wVar 1)))))
  sNext)
  (sSeq (sIf (wOrT (wTt (wOp pNe2 (w1 (pIsi ["tuple"]) (wVar 1)) (w1 (pIsi ["tuple"]) (wVar 0)))) (wTt (wOp pNe2 (w1 (pIsi ["list"]) (wVar 1)) (w1 (pIsi ["list"]) (wVar 0)))))
  (sRet (wC (.bool false)))
  sNext)
  (sSeq (sIf (wTt (wOp pNe2 (w1 pLen (wVar 0)) (w1 pLen (wVar 1))))
  (sRet (wC (.bool false)))
  sNext)
  (sRet (wOp (pIn2 true) (wC (.bool false)) (fz (fLc (wZip (wVar 0) (wVar 1)) (.tp [2, 3]) wYes (wCall w (wAName 2 (wAName 3 wANil))) [2, 3])))))))))
def w__law_same : Nat → WD
  | 0 => fun _ _ _ => False
  | n + 1 => wDef 2 4 (t__law_same (w__law_same n))
def t_kept_after : WS := (sRet (wIfE (wTt (wOp pEq2 (wOp pIx (wVar 1) (wC (.int 0))) (wC (.str "columns")))) (wOp pIx (wVar 1) (wC (.int 1))) (wVal 0)))
def w_kept_after : WD := wDef 2 2 t_kept_after
def t__law_kept : WS := (sSeq (sSet (wOp pIx (wVar 0) (wC (.int 0))) 2)
  (sSeq (sFor (wSeq (wVal 1)) (.nm 3)
  (sSet (wIfE (wTt (wOp pEq2 (wOp pIx (wVar 3) (wC (.int 0))) (wC (.str "columns")))) (wOp pIx (wVar 3) (wC (.int 1))) (wVal 2)) 2))
  (sRet (wVal 2))))
def w__law_kept : WD := wDef 2 4 t__law_kept
def t_is_plain_integer : WS := (sRet (wAndE (w1 (pIsi ["int"]) (wVar 0)) (wNotE (w1 (pIsi ["bool"]) (wVar 0)))))
def w_is_plain_integer : WD := wDef 1 1 t_is_plain_integer
def t__law_cells : WS := (sRet (fz (fLc (wSeq (wVar 2)) (.nm 3) wYes (wOp pIx (wVar 1) (wMS pIndex (wOp pIx (wVar 0) (wC (.int 0))) (wVar 3))) [3])))
def w__law_cells : WD := wDef 3 4 t__law_cells
def t__law_fits : WS := (sSeq (sFor (wSeq (wOp pIx (wVar 0) (wC (.int 1)))) (.tp [3, 4])
  (sIf (wTt (wOp pEq2 (wCall w__law_cells (wAName 0 (wAName 1 (wAName 3 wANil)))) (wCall w__law_cells (wAName 0 (wAName 2 (wAName 3 wANil))))))
  (sIf (wTt (wOp pNe2 (wCall w__law_cells (wAName 0 (wAName 1 (wAName 4 wANil)))) (wCall w__law_cells (wAName 0 (wAName 2 (wAName 4 wANil))))))
  (sRet (wC (.bool false)))
  sNext)
  sNext))
  (sRet (wOp pEq2 (fz (fLc (wSeq (wOp pIx (wVar 0) (wC (.int 2)))) (.nm 5) (wTt (wOp pEq2 (wCall w__law_cells (wAName 0 (wAName 1 (wAName 5 wANil)))) (wCall w__law_cells (wAName 0 (wAName 2 (wAName 5 wANil)))))) (wVal 5) [5])) (fz (wLst wNil)))))
def w__law_fits : WD := wDef 3 6 t__law_fits
def t__law_draw_table : WS := (sSeq (sUnpLD 4 5 (wLst wNil) (wOp pIx (fz (wLst (wCons (wC (.int 0)) (wCons (wC (.int 2)) (wCons (wC (.int 11)) (wCons (wNeg (wC (.int 8))) (wCons (wNeg (wC (.int 1000))) wNil))))))) (wCall w__law_take (wAName 0 (wACons (wC (.int 5)) wANil)))))
  (sSeq (sFor (wRng1 (wVar 2)) (.nm 6)
  (sSeq (sSet (w1 pTupA (fz (fLc (wSeq (wOp pIx (wVar 1) (wC (.int 0)))) (.nm 8) wYes (wOp pSub (wCall w__law_take (wAName 0 (wAName 3 wANil))) (wVar 5)) [8]))) 7)
  (sIf (wTt (wOp (pIn2 true) (wC (.bool false)) (fz (fLc (wSeq (wVar 4)) (.nm 9) wYes (wCall w__law_fits (wAName 1 (wAName 7 (wAName 9 wANil)))) [9]))))
  (sApp 4 (wVal 7))
  sNext)))
  (sRetN 4)))
def w__law_draw_table : WD := wDef 4 10 t__law_draw_table
def t__law_one_way : WS := (sSeq (sIf (wTt (wOp pEq2 (wOp pIx (wVar 2) (wC (.int 0))) (wC (.str "where"))))
  (sRet (fz (fLc (wSeq (wVar 1)) (.nm 3) (wTt (wOp pEq2 (wCall w__law_cells (wAName 0 (wAName 3 (wACons (wOp pIx (wVar 2) (wC (.int 1))) wANil)))) (fz (wLst (wCons (wOp pIx (wVar 2) (wC (.int 2))) wNil))))) (wVal 3) [3])))
  sNext)
  (sSeq (sIf (wTt (wOp pEq2 (wOp pIx (wVar 2) (wC (.int 0))) (wC (.str "stable"))))
  (sRet (fz (wSortK (wColD (wVar 1)) 3 [] (wCall w__law_cells (wAName 0 (wAName 3 (wACons (wOp pIx (wVar 2) (wC (.int 1))) wANil)))))))
  sNext)
  (sSeq (sIf (wTt (wOp pEq2 (wOp pIx (wVar 2) (wC (.int 0))) (wC (.str "first"))))
  (sRet (wSl (wVar 1) wNoPart (wPart (wOp pIx (wVar 2) (wC (.int 1))))))
  sNext)
  (sRet (wIfE (wTt (wOp pEq2 (wOp pIx (wVar 2) (wC (.int 0))) (wC (.str "skip")))) (wSl (wVar 1) (wPart (wOp pIx (wVar 2) (wC (.int 1)))) wNoPart) (wVal 1))))))
def w__law_one_way : WD := wDef 3 4 t__law_one_way
def t_is_permutation : WS := (sSeq (sIf (wOrT (wNotT (wTru (w1 (pIsi ["list"]) (wVar 1)))) (wTt (wOp pNe2 (w1 pLen (wVar 1)) (wVar 0))))
  (sRet (wC (.bool false)))
  sNext)
  (sRet (wAndE (w1 pAll (fz (fLc (wSeq (wVar 1)) (.nm 2) wYes (wCall w_is_plain_integer (wAName 2 wANil)) [2]))) (wOp pEq2 (fz (w1L pSort (wVar 1))) (fz (wLstR (wVar 0)))))))
def w_is_permutation : WD := wDef 2 3 t_is_permutation
def t__permuted : WS := (sSeq (sIf (wNotT (wTru (wCall w_is_permutation (wACons (w1 pLen (wVar 0)) (wAName 1 wANil)))))
  sNever
  sNext)
  (sRet (fz (fLc (wSeq (wVar 1)) (.nm 2) wYes (wOp pIx (wVar 0) (wVar 2)) [2]))))
def w__permuted : WD := wDef 2 3 t__permuted
def t_projected : WS := (sSeq (sSet (fz (fLc (wSeq (wVar 1)) (.nm 4) wYes (wMS pIndex (wVar 0) (wVar 4)) [4])) 3)
  (sRet (fz (fLc (wSeq (wVar 2)) (.nm 5) wYes (w1 pTupA (fz (fLc (wSeq (wVar 3)) (.nm 6) wYes (wOp pIx (wVar 5) (wVar 6)) [6]))) [5]))))
def w_projected : WD := wDef 3 7 t_projected
def t__sorted_by_script : WS := (sSeq (sSet (wCall w__permuted (wAName 1 (wAName 3 wANil))) 4)
  (sSeq (sSet (wCall w_projected (wAName 0 (wAName 2 (wAName 4 wANil)))) 5)
  (sSeq (sIf (wTt (wOp pNe2 (wVar 5) (fz (w1L pSort (wVar 5)))))
  sNever
  sNext)
  (sRet (wVal 4)))))
def w__sorted_by_script : WD := wDef 4 6 t__sorted_by_script
def t_stable_permutation : WS := (sSeq (sSet (wCall w_projected (wAName 0 (wAName 2 (wAName 1 wANil)))) 3)
  (sRet (fz (wSortK (wColR (w1 pLen (wVar 1))) 4 [] (wOp pIx (wVar 3) (wVar 4))))))
def w_stable_permutation : WD := wDef 3 5 t_stable_permutation
def t__group_row : WS := (sSeq (sIf (wTt (wOp pEq2 (wOp pIx (wVar 1) (wC (.int 0))) (wC (.str "heads"))))
  (sRet (wOp pIx (wVar 3) (wC (.int 0))))
  sNext)
  (sSeq (sIf (wTt (wOp pEq2 (wOp pIx (wVar 1) (wC (.int 0))) (wC (.str "count"))))
  (sRet (wOp pAdd (wVar 2) (wTup (wCons (w1 pLen (wVar 3)) wNil))))
  sNext)
  (sSeq (sSet (wMS pIndex (wVar 0) (wOp pIx (wVar 1) (wC (.int 2)))) 4)
  (sRet (wOp pAdd (wVar 2) (wTup (wCons (w1 pSum (fz (fLc (wSeq (wVar 3)) (.nm 5) wYes (wOp pIx (wVar 5) (wVar 4)) [5]))) wNil)))))))
def w__group_row : WD := wDef 4 6 t__group_row
def t__grouped : WS := (sGroup (wZip (wCall w_projected (wAName 0 (wACons (wOp pIx (wVar 2) (wC (.int 1))) (wAName 1 wANil)))) (wVal 1)) 3 4 5 0 2 6 w__group_row)
def w__grouped : WD := wDef 3 7 t__grouped
def t_rows_after_v1 : WS := (sSeq (sSet (wOp pIx (wVar 2) (wC (.int 0))) 3)
  (sSeq (sIf (wTt (wOp (pIn2 false) (wVar 3) (wC d_SORTING)))
  (sRet (fz (fLc (wSeq (wCall w_stable_permutation (wAName 0 (wAName 1 (wACons (wOp pIx (wVar 2) (wC (.int 1))) wANil))))) (.nm 5) wYes (wOp pIx (wVar 1) (wVar 5)) [5])))
  sNext)
  (sSeq (sIf (wTt (wOp pEq2 (wVar 3) (wC (.str "where"))))
  (sSeq (sSet (wMS pIndex (wVar 0) (wOp pIx (wVar 2) (wC (.int 1)))) 4)
  (sRet (fz (fLc (wSeq (wVar 1)) (.nm 6) (wTt (wOp pEq2 (wOp pIx (wVar 6) (wVar 4)) (wOp pIx (wVar 2) (wC (.int 2))))) (wVal 6) [6]))))
  sNext)
  (sSeq (sIf (wTt (wOp pEq2 (wVar 3) (wC (.str "first"))))
  (sRet (wSl (wVar 1) wNoPart (wPart (wOp pIx (wVar 2) (wC (.int 1))))))
  sNext)
  (sSeq (sIf (wTt (wOp pEq2 (wVar 3) (wC (.str "skip"))))
  (sRet (wSl (wVar 1) (wPart (wOp pIx (wVar 2) (wC (.int 1)))) wNoPart))
  sNext)
  (sSeq (sIf (wTt (wOp pEq2 (wVar 3) (wC (.str "columns"))))
  (sRet (wCall w_projected (wAName 0 (wACons (wOp pIx (wVar 2) (wC (.int 1))) (wAName 1 wANil)))))
  sNext)
  (sRet (wCall w__grouped (wAName 0 (wAName 1 (wAName 2 wANil)))))))))))
def w_rows_after_v1 : WD := wDef 3 7 t_rows_after_v1
def t_run_v1 : WS := (sSeq (sSet (fz (fLc (wSeq (wVar 1)) (.nm 8) (wTt (wOp pEq2 (wOp pIx (wVar 8) (wC (.int 0))) (wC (.str "sort")))) (wVal 8) [8])) 4)
  (sSeq (sIf (wOrT (wNotT (wTru (w1 (pIsi ["list"]) (wVar 3)))) (wTt (wOp pNe2 (w1 pLen (wVar 3)) (wOp pAdd (wC (.int 1)) (w1 pLen (wVar 4))))))
  sNever
  sNext)
  (sSeq (sSet (wCall w__permuted (wAName 2 (wACons (wOp pIx (wVar 3) (wC (.int 0))) wANil))) 5)
  (sSeq (sSet (wOp pIx (wVar 0) (wC (.int 0))) 6)
  (sSeq (sSet (wC (.int 1)) 7)
  (sSeq (sFor (wSeq (wVal 1)) (.nm 8)
  (sSeq (sIf (wTt (wOp pEq2 (wOp pIx (wVar 8) (wC (.int 0))) (wC (.str "sort"))))
  (sSeq (sSet (wCall w__sorted_by_script (wAName 6 (wAName 5 (wACons (wOp pIx (wVar 8) (wC (.int 1))) (wACons (wOp pIx (wVar 3) (wVar 7)) wANil))))) 5)
  (sAugI 7 (wC (.int 1))))
  (sSet (wCall w_rows_after_v1 (wAName 6 (wAName 5 (wAName 8 wANil)))) 5))
  (sSet (wCall w_kept_after (wAName 6 (wAName 8 wANil))) 6)))
  (sRet (wVal 5))))))))
def w_run_v1 : WD := wDef 4 9 t_run_v1
def t__law_first : WS := (sSeq (sUnpLD 3 4 (wLst (wCons (fz (wLstR (w1 pLen (wVar 2)))) wNil)) (fz (w1L pListA (wVar 2))))
  (sSeq (sFor (wSeq (wVal 1)) (.nm 5)
  (sIf (wTt (wOp pEq2 (wOp pIx (wVar 5) (wC (.int 0))) (wC (.str "sort"))))
  (sSeq (sSet (fz (wSortK (wColR (w1 pLen (wVar 4))) 7 [] (wTup (wCons (wCall w__law_cells (wAName 0 (wACons (wOp pIx (wVar 4) (wVar 7)) (wACons (wOp pIx (wVar 5) (wC (.int 1))) wANil)))) (wCons (wVal 7) wNil))))) 6)
  (sSeq (sApp 3 (wVal 6))
  (sSet (fz (fLc (wSeq (wVar 6)) (.nm 7) wYes (wOp pIx (wVar 4) (wVar 7)) [7])) 4)))
  (sSet (wCall w__law_one_way (wAName 0 (wAName 4 (wAName 5 wANil)))) 4)))
  (sFz 3 (sRet (wTup (wCons (wVal 3) (wCons (wVal 4) wNil)))))))
def w__law_first : WD := wDef 3 8 t__law_first
def t_first_script_o : WS := (sSeq (sSetL (wLst (wCons (fz (wLstR (w1 pLen (wVar 2)))) wNil)) 3)
  (sSeq (sSet (wVal 2) 4)
  (sSeq (sSet (wOp pIx (wVar 0) (wC (.int 0))) 5)
  (sSeq (sFor (wSeq (wVal 1)) (.nm 6)
  (sSeq (sIf (wTt (wOp pEq2 (wOp pIx (wVar 6) (wC (.int 0))) (wC (.str "sort"))))
  (sApp 3 (wCall w_stable_permutation (wAName 5 (wAName 4 (wACons (wOp pIx (wVar 6) (wC (.int 1))) wANil)))))
  sNext)
  (sSeq (sSet (wCall w_rows_after_v1 (wAName 5 (wAName 4 (wAName 6 wANil)))) 4)
  (sSet (wCall w_kept_after (wAName 5 (wAName 6 wANil))) 5))))
  (sRetO 3)))))
def w_first_script_o : WDO := wDefO 3 7 t_first_script_o
def t__law_ended : WS := (sSeq (sSet (wCall w__law_kept (wAName 0 (wAName 1 wANil))) 3)
  (sSeq (sIf (wOrT (wTt (wOp pEq2 (wVar 1) (wTup wNil))) (wTt (wOp (pIn2 true) (wOp pIx (wOp pIx (wVar 1) (wNeg (wC (.int 1)))) (wC (.int 0))) (fz (wLst (wCons (wC (.str "count")) (wCons (wC (.str "sum")) (wCons (wC (.str "heads")) wNil))))))))
  (sRet (fz (fLc (wSeq (wVar 2)) (.nm 9) wYes (w1 pTupA (wCall w__law_cells (wAName 0 (wAName 9 (wAName 3 wANil))))) [9])))
  sNext)
  (sSeq (sUnpDL 4 5 (wOp pIx (wVar 1) (wNeg (wC (.int 1)))) (wLst wNil))
  (sSeq (sSet (fz (w1L pSortSetT (fz (fLc (wSeq (wVar 2)) (.nm 9) wYes (w1 pTupA (wCall w__law_cells (wAName 0 (wAName 9 (wACons (wOp pIx (wVar 4) (wC (.int 1))) wANil))))) [9])))) 6)
  (sSeq (sFor (wSeq (wVal 6)) (.nm 7)
  (sSeq (sSet (fz (fLc (wSeq (wVar 2)) (.nm 9) (wTt (wOp pEq2 (w1 pTupA (wCall w__law_cells (wAName 0 (wAName 9 (wACons (wOp pIx (wVar 4) (wC (.int 1))) wANil))))) (wVar 7))) (wVal 9) [9])) 8)
  (sIf (wTt (wOp pEq2 (wOp pIx (wVar 4) (wC (.int 0))) (wC (.str "heads"))))
  (sApp 5 (w1 pTupA (wCall w__law_cells (wAName 0 (wACons (wOp pIx (wVar 8) (wC (.int 0))) (wAName 3 wANil))))))
  (sIf (wTt (wOp pEq2 (wOp pIx (wVar 4) (wC (.int 0))) (wC (.str "count"))))
  (sApp 5 (wOp pAdd (wVar 7) (wTup (wCons (w1 pLen (wVar 8)) wNil))))
  (sApp 5 (wOp pAdd (wVar 7) (wTup (wCons (w1 pSum (fz (fLc (wSeq (wVar 8)) (.nm 9) wYes (wOp pIx (wCall w__law_cells (wAName 0 (wAName 9 (wACons (wOp pIx (wVar 4) (wC (.int 2))) wANil)))) (wC (.int 0))) [9]))) wNil))))))))
  (sRetN 5))))))
def w__law_ended : WD := wDef 3 10 t__law_ended
end Lw
namespace Lw
open PySem PySem.Spec PyProof.Rows L2 Pu SeqAt PuS
local macro_rules
  | `(tactic| walk_at "s") => `(tactic| first
    | with_reducible refine n_seq ?_
    | with_reducible refine n_set ?_
    | with_reducible refine n_setL ?_
    | with_reducible refine n_ret ?_
    | with_reducible refine n_if ?_
    | with_reducible refine n_par ?_
    | with_reducible refine n_parL ?_
    | with_reducible refine n_next ?_
    | with_reducible refine n_asg ?_
    | with_reducible refine m_c ?_
    | with_reducible refine m_d0 ?_
    | ((with_reducible apply m_var); (exact rfl))
    | ((with_reducible apply m_val); (exact rfl))
    | with_reducible refine m_z ?_
    | with_reducible refine m_op h2_add ?_
    | with_reducible refine m_op h2_mulT ?_
    | with_reducible refine m_op h2_eq ?_
    | with_reducible refine m_op h2_ne2 ?_
    | with_reducible refine m_op h2_in ?_
    | with_reducible refine m_op h2_is ?_
    | with_reducible refine m_op h2_ix ?_
    | with_reducible refine m_op h2_lt ?_
    | with_reducible refine m_op h2_le ?_
    | with_reducible refine m_op h2_gt ?_
    | with_reducible refine m_op h2_ge ?_
    | with_reducible refine m_op h2_sub ?_
    | with_reducible refine m_op h2_mod ?_
    | with_reducible refine m_opL h2_catL ?_
    | with_reducible refine m_opL h2_repL ?_
    | with_reducible refine m_1 h1_len ?_
    | with_reducible refine m_1 h1_tupA ?_
    | with_reducible refine m_op h2_pow ?_
    | with_reducible refine m_1 h1_int ?_
    | with_reducible refine m_1 h1_all ?_
    | with_reducible refine m_1 h1_any ?_
    | with_reducible refine m_1 h1_isi ?_
    | with_reducible refine m_1 h1_lenSet ?_
    | with_reducible refine m_1 h1_lenSet2 ?_
    | with_reducible refine m_op h2_mulV ?_
    | with_reducible refine m_sort ?_
    | with_reducible refine n_dictK ?_
    | ((with_reducible apply m_kin); (exact rfl))
    | ((with_reducible apply m_kget); (exact rfl))
    | ((with_reducible apply n_kset); (exact rfl))
    | ((with_reducible apply m_klist); (exact rfl))
    | with_reducible refine m_dget2 ?_
    | with_reducible refine m_1 h1_revE ?_
    | with_reducible refine m_1L h1_listA ?_
    | with_reducible refine m_1L h1_listL ?_
    | with_reducible refine m_1L h1_sortSet ?_
    | with_reducible refine m_ms hm_join ?_
    | with_reducible refine m_ms hm_index ?_
    | with_reducible refine m_tt ?_
    | with_reducible refine m_tru ?_
    | with_reducible refine m_notT ?_
    | with_reducible refine m_andT ?_
    | with_reducible refine m_orT ?_
    | with_reducible refine m_yes ?_
    | with_reducible refine m_ifE ?_
    | with_reducible refine m_andE ?_
    | with_reducible refine m_orE ?_
    | with_reducible refine m_notE ?_
    | with_reducible refine m_neg ?_
    | with_reducible refine m_nil ?_
    | with_reducible refine m_cons ?_
    | with_reducible refine m_tup ?_
    | with_reducible refine m_lst ?_
    | with_reducible refine m_aNil ?_
    | with_reducible refine m_aCons ?_
    | ((with_reducible apply m_aName); (exact rfl))
    | with_reducible refine m_call ?_
    | with_reducible refine m_noPart ?_
    | with_reducible refine m_part ?_
    | with_reducible refine m_sl ?_
    | with_reducible refine m_slL ?_
    | with_reducible refine m_ch h2_le h2_le ?_
    | with_reducible refine m_seq ?_
    | with_reducible refine m_rng1 ?_
    | with_reducible refine m_zip ?_
    | with_reducible refine m_enumT ?_)
local macro_rules
  | `(tactic| walk_at "e") => `(tactic| first
    | with_reducible refine ⟨_, eq_int _ _, ?_⟩
    | with_reducible refine ⟨_, ix_t0 _ _, ?_⟩
    | with_reducible refine ⟨_, ix_t1 _ _ _, ?_⟩
    | with_reducible refine ⟨_, ix_t2 _ _ _ _, ?_⟩
    | with_reducible refine ⟨_, ne2_int _ _, ?_⟩
    | with_reducible refine ⟨_, eq_str _ _, ?_⟩
    | with_reducible refine ⟨_, in_sg _ _, ?_⟩
    | with_reducible refine ⟨_, eq_tup0 _, ?_⟩
    | with_reducible refine ⟨_, in_chs _ _, ?_⟩
    | with_reducible refine ⟨_, nodup_eq _, ?_⟩
    | with_reducible refine ⟨_, sorted_eq _, ?_⟩
    | with_reducible refine ⟨_, rfl, ?_⟩)
local macro_rules
  | `(tactic| walk_at "r") => `(tactic| refine ⟨_, rfl, ?_⟩)
local macro_rules
  | `(tactic| walk_at "t") => `(tactic| refine ⟨fun _ => ?_, fun h => Bool.noConfusion (show true = false from h)⟩)
local macro_rules
  | `(tactic| walk_at "f") => `(tactic| refine ⟨fun h => Bool.noConfusion (show false = true from h), fun _ => ?_⟩)
section
variable {n : Nat} {Q : PyData → Nat → Prop} {K : Str} {a b c v : PyData} {sr : List PyData}
theorem take_run {k : Int} (h0 : 0 < k) (h1 : k < 1073741824) (hn : 1 ≤ n) (q : ∀ r : Int, 0 ≤ r → r < k → Q (.int r) (n - 1)) : MD w__law_take [.p, .d (.int k)] n Q :=
  fun b P hb kk => ⟨k, rfl, h0, h1, by omega, fun r r0 r1 => kk _ (n - 1) (b - 1) (q r r0 r1) (by omega)⟩
/-- .. of a natural number -/
theorem take_nat {k : Nat} (h0 : 0 < k) (h1 : k < 1073741824) (hn : 1 ≤ n) (q : ∀ r : Nat, r < k → Q (.int r) (n - 1)) : MD w__law_take [.p, .d (.int k)] n Q :=
  take_run (by omega) (by omega) hn fun r r0 r1 => by
    have := q r.toNat (by omega)
    rwa [Int.toNat_of_nonneg r0] at this
theorem subset_run {z : Str} (hz : (Ls z).length ≤ 1000) (hn : (Ls z).length ≤ n) (q : ∀ l m, l.Sublist (Ls z) → n ≤ m + (Ls z).length → Q (.str (tx l)) m) : MD w__law_subset [.p, .d (.str z)] n Q := by
  refine md_def rfl rfl ?_
  unfold t__law_subset
  (repeat walk_at "s")
  refine ⟨_, rfl, ?_⟩
  (repeat walk_at "s")
  refine m_lc ?_
  (repeat walk_at "s")
  refine ⟨_, seq_str z, by rw [List.length_map, sizeLine_eq]; omega, fun rest acc m => ∃ (rl done l : List Nat), Ls z = done ++ rl ∧ rest = rl.map sg ∧ acc = l.map sg ∧ l.Sublist done ∧ n ≤ m + done.length, ⟨Ls z, [], [], rfl, rfl, rfl, List.Sublist.refl _, by simp⟩, fun x rest acc m hJ => ?_, fun acc m hJ => ?_⟩
  · obtain ⟨rl, done, l, e1, e2, e3, sb, hm⟩ := hJ
    cases rl with
    | nil => cases e2
    | cons c rl =>
    rw [List.map_cons] at e2
    obtain ⟨rfl, rfl⟩ := List.cons.inj e2
    have hl := congrArg List.length e1
    rw [List.length_append, List.length_cons] at hl
    refine ⟨_, rfl, ?_⟩
    (repeat walk_at "s")
    refine take_run (by decide) (by decide) (by omega) fun r r0 r1 => ?_
    (repeat walk_at "s"); walk_at "e"; walk_at "r"
    refine ⟨fun h => ?_, fun h => ?_⟩
    · (repeat walk_at "s")
      exact ⟨rl, done ++ [c], l ++ [c], by rw [e1]; simp, rfl, by rw [e3]; simp, sb.append_right [c], by rw [List.length_append]; simp; omega⟩
    · exact ⟨rl, done ++ [c], l, by rw [e1]; simp, rfl, e3, sb.trans (List.sublist_append_left _ _), by rw [List.length_append]; simp; omega⟩
  · obtain ⟨rl, done, l, e1, e2, e3, sb, hm⟩ := hJ
    have e0 : rl = [] := by cases rl with | nil => rfl | cons c r => cases e2
    subst e0
    rw [List.append_nil] at e1
    rw [← e1] at sb hm
    subst e3
    exact ⟨_, join_sg (Nat.le_trans sb.length_le hz), q l m sb hm⟩
theorem mixed_run {z : Str} (hz : (Ls z).length ≤ 1000) (hn : (Ls z).length ≤ n) (q : ∀ l m, l.Perm (Ls z) → n ≤ m + (Ls z).length → Q (.str (tx l)) m) : MD w__law_mixed [.p, .d (.str z)] n Q := by
  refine md_def rfl rfl ?_
  unfold t__law_mixed
  (repeat walk_at "s")
  refine n_for ?_
  (repeat walk_at "s")
  refine ⟨_, seq_str z, fun rest e m => ∃ (rl done l : List Nat) (x3 x4 : Option Sl), Ls z = done ++ rl ∧ rest = rl.map sg ∧ e = [some .p, some (.d (.str z)), some (.d (.str (tx l))), x3, x4] ∧ l.Perm done ∧ n ≤ m + done.length, ⟨Ls z, [], [], none, none, rfl, rfl, rfl, List.Perm.refl _, by simp⟩, fun x rest e m hJ => ?_, fun e m hJ => ?_⟩
  · obtain ⟨rl, done, l, x3, x4, e1, e2, rfl, pm, hm⟩ := hJ
    cases rl with
    | nil => cases e2
    | cons c rl =>
    rw [List.map_cons] at e2
    obtain ⟨rfl, rfl⟩ := List.cons.inj e2
    have hl := congrArg List.length e1
    rw [List.length_append, List.length_cons] at hl
    have lp := pm.length_eq
    refine ⟨_, rfl, ?_⟩
    (repeat walk_at "s")
    refine ⟨_, len_str (by rw [Ls_tx]; omega), ?_⟩
    (repeat walk_at "s")
    refine ⟨.int ((l.length + 1 : Nat) : Int), by rw [Ls_tx]; rfl, ?_⟩
    (repeat walk_at "s")
    refine take_nat (by omega) (by omega) (by omega) fun r hr => ?_
    (repeat walk_at "s")
    refine ⟨_, rfl, ?_⟩
    (repeat walk_at "s")
    refine ⟨_, sl_to (by omega) (by omega), ?_⟩
    (repeat walk_at "s")
    refine ⟨_, add_str (by rw [Ls_tx, List.length_take]; show min r l.length + 1 ≤ _; omega), ?_⟩
    (repeat walk_at "s")
    refine ⟨_, rfl, ?_⟩
    (repeat walk_at "s")
    refine ⟨_, sl_from (by omega) (by omega), ?_⟩
    refine ⟨_, add_str (by rw [Ls_tx, Ls_tx, Ls_tx, List.length_append, List.length_take, List.length_drop]; show min r l.length + 1 + (l.length - r) ≤ _; omega), ?_⟩
    rw [Ls_tx, Ls_tx, Ls_tx]
    refine ⟨rl, done ++ [c], l.take r ++ [c] ++ l.drop r, _, _, by rw [e1]; simp, rfl, rfl, ?_, by rw [List.length_append]; simp; omega⟩
    have h1 : (l.take r ++ [c] ++ l.drop r).Perm (l.take r ++ l.drop r ++ [c]) := by
      rw [List.append_assoc, List.append_assoc]
      exact List.Perm.append_left _ List.perm_append_comm
    rw [List.take_append_drop] at h1
    exact h1.trans (pm.append_right [c])
  · obtain ⟨rl, done, l, x3, x4, e1, e2, rfl, pm, hm⟩ := hJ
    have e0 : rl = [] := by cases rl with | nil => rfl | cons c r => cases e2
    subst e0
    rw [List.append_nil] at e1
    rw [← e1] at pm hm
    (repeat walk_at "s")
    exact q l m pm hm
end
section
variable {n : Nat} {Q : PyData → Nat → Prop}
theorem letters_ok (r : Nat) (h : r < 7) : ∃ l : List Nat, ([.str "abcde", .str "acxyz", .str "bdeqz", .str "hijkl", .str "gnopr", .str "rsuvw", .str "fmtwy"] : List PyData)[r]'h = .str (tx l) ∧ l.length = 5 ∧ l.Pairwise (· < ·) ∧ ∀ c ∈ l, 97 ≤ c ∧ c < 123 := by
  match r, h with
  | 0, _ => exact ⟨[97, 98, 99, 100, 101], congrArg PyData.str (by decide +kernel), rfl, by decide, by decide⟩
  | 1, _ => exact ⟨[97, 99, 120, 121, 122], congrArg PyData.str (by decide +kernel), rfl, by decide, by decide⟩
  | 2, _ => exact ⟨[98, 100, 101, 113, 122], congrArg PyData.str (by decide +kernel), rfl, by decide, by decide⟩
  | 3, _ => exact ⟨[104, 105, 106, 107, 108], congrArg PyData.str (by decide +kernel), rfl, by decide, by decide⟩
  | 4, _ => exact ⟨[103, 110, 111, 112, 114], congrArg PyData.str (by decide +kernel), rfl, by decide, by decide⟩
  | 5, _ => exact ⟨[114, 115, 117, 118, 119], congrArg PyData.str (by decide +kernel), rfl, by decide, by decide⟩
  | 6, _ => exact ⟨[102, 109, 116, 119, 121], congrArg PyData.str (by decide +kernel), rfl, by decide, by decide⟩
theorem rng_len (j : Nat) : (rngD 0 j).length = j := by simp [rngD]
theorem rng_at {lo : Int} {k : Nat} {x : PyData} {r : List PyData} (j : Nat) (h : x :: r = (rngD lo j).drop k) : x = .int (lo + k) ∧ r = (rngD lo j).drop (k + 1) ∧ k < j := by
  have hk : k < (rngD lo j).length := by
    rcases Nat.lt_or_ge k (rngD lo j).length with q | q
    · exact q
    · rw [List.drop_of_length_le q] at h; cases h
  rw [List.drop_eq_getElem_cons hk] at h
  obtain ⟨e1, e2⟩ := List.cons.inj h
  refine ⟨?_, e2, by simpa [rngD] using hk⟩
  rw [e1]
  simp [rngD]
theorem _root_.Pu.RulesOk.add {K : List Nat} {rules : List Rule} {p : Rule} (h : RulesOk K rules) (hp : p.1.Sublist K ∧ p.2 ∈ K ∧ p.2 ∉ p.1) (hn : p ∉ rules) (few : rules.length ≤ 5) : RulesOk K (rules ++ [p]) := by
  refine ⟨fun q hq => ?_, ?_, by rw [List.length_append]; simp; omega⟩
  · rcases List.mem_append.mp hq with hq | hq
    · exact h.one q hq
    · rw [List.mem_singleton] at hq; subst hq; exact hp
  · rw [List.nodup_append]
    exact ⟨h.nodup, by simp, fun a ha b hb => by rw [List.mem_singleton] at hb; subst hb; intro e; subst e; exact hn ha⟩
theorem _root_.Pu.KeysOk.add {K : List Nat} {keys : List (List Nat)} {p : List Nat} (h : KeysOk K keys) (hp : p.Sublist K ∧ p ≠ []) (hn : p ∉ keys) (few : keys.length ≤ 1) : KeysOk K (keys ++ [p]) := by
  refine ⟨fun q hq => ?_, ?_, by rw [List.length_append]; simp; omega⟩
  · rcases List.mem_append.mp hq with hq | hq
    · exact h.one q hq
    · rw [List.mem_singleton] at hq; subst hq; exact hp
  · rw [List.nodup_append]
    exact ⟨h.nodup, by simp, fun a ha b hb => by rw [List.mem_singleton] at hb; subst hb; intro e; subst e; exact hn ha⟩
/-- rules one after another: each column determines the next -/
def chainR : List Nat → List Rule
  | a :: b :: r => ([a], b) :: chainR (b :: r)
  | _ => []
theorem chain_one : ∀ {K : List Nat}, K.Pairwise (· < ·) → ∀ p ∈ chainR K, ∃ a b, p = ([a], b) ∧ a ∈ K ∧ b ∈ K ∧ a < b
  | [], _, p, h => by cases h
  | [a], _, p, h => by cases h
  | a :: b :: r, hK, p, h => by
    obtain ⟨h1, h2⟩ := List.pairwise_cons.mp hK
    rcases List.mem_cons.mp h with e | h
    · exact ⟨a, b, e, by simp, by simp, h1 b (by simp)⟩
    · obtain ⟨x, y, e, hx, hy, l⟩ := chain_one h2 p h
      exact ⟨x, y, e, List.mem_cons_of_mem _ hx, List.mem_cons_of_mem _ hy, l⟩
theorem chain_nodup : ∀ {K : List Nat}, K.Pairwise (· < ·) → (chainR K).Nodup
  | [], _ => by simp [chainR]
  | [a], _ => by simp [chainR]
  | a :: b :: r, hK => by
    obtain ⟨h1, h2⟩ := List.pairwise_cons.mp hK
    refine List.nodup_cons.mpr ⟨fun h => ?_, chain_nodup h2⟩
    obtain ⟨x, y, e, hx, _, _⟩ := chain_one h2 _ h
    have : a = x := by simpa using congrArg Prod.fst e
    subst this
    have := h1 a hx
    omega
theorem chain_len : ∀ K : List Nat, (chainR K).length = K.length - 1
  | [] => rfl
  | [a] => rfl
  | a :: b :: r => by simp [chainR, chain_len (b :: r)]
theorem chain_get : ∀ {K : List Nat} {k : Nat} (h : k + 1 < K.length), (chainR K)[k]? = some ([K[k]], K[k + 1])
  | [], k, h => by simp at h
  | [a], k, h => by simp at h
  | a :: b :: r, 0, h => rfl
  | a :: b :: r, k + 1, h => by
    have := chain_get (K := b :: r) (k := k) (by simpa using h)
    simpa [chainR] using this
theorem chain_ok {K : List Nat} (hK : ColsOk K) (t : Nat) (ht : t ≤ 1) : RulesOk K ((chainR K).reverse ++ (List.replicate t [([], K.head hK.some)]).flatten) := by
  have h0 : RulesOk K (chainR K).reverse := by
    refine ⟨fun p hp => ?_, List.pairwise_reverse.mpr ((chain_nodup hK.asc).imp fun h => Ne.symm h), by rw [List.length_reverse, chain_len]; have := hK.few; omega⟩
    obtain ⟨a, b, rfl, ha, hb, l⟩ := chain_one hK.asc p (List.mem_reverse.mp hp)
    exact ⟨List.singleton_sublist.mpr ha, hb, by simp; omega⟩
  match t, ht with
  | 0, _ => simpa using h0
  | 1, _ =>
    have := h0.add (p := ([], K.head hK.some)) ⟨List.nil_sublist _, List.head_mem _, by simp⟩ (fun hp => by
      obtain ⟨a, b, e, _⟩ := chain_one hK.asc _ (List.mem_reverse.mp hp)
      simp at e) (by rw [List.length_reverse, chain_len]; have := hK.few; omega)
    simpa using this
theorem draw_schema_run {most : Nat} (hm : 1 ≤ most) (hm5 : most ≤ 5) (hn : 100 ≤ n) (q : ∀ K rules keys m, ColsOk K → (∀ c ∈ K, 97 ≤ c ∧ c < 123) → K.length ≤ most → RulesOk K rules → KeysOk K keys → n ≤ m + 100 → Q (schD K rules keys) m) : MD w__law_draw_schema [.p, .d (.int (most : Nat))] n Q := by
  refine md_def rfl rfl ?_
  unfold t__law_draw_schema
  (repeat walk_at "s")
  refine ⟨by show 7 ≤ sizeLine; decide, ?_⟩
  (repeat walk_at "s")
  refine take_nat (by decide) (by decide) (by omega) fun r1 h1 => ?_
  refine ⟨_, ix_nat h1, ?_⟩
  obtain ⟨ls, els, l5, lp, ll⟩ := letters_ok r1 h1
  rw [els]
  (repeat walk_at "s")
  refine take_nat (by omega) (by omega) (by omega) fun r2 h2 => ?_
  refine ⟨.int ((1 + r2 : Nat) : Int), by rw [Int.natCast_add]; rfl, ?_⟩
  refine ⟨_, rfl, ?_⟩
  refine ⟨_, sl_to (by omega) (by omega), ?_⟩
  generalize hK0 : ls.take (1 + r2) = K
  have hK : ColsOk K := by
    have hs : (ls.take (1 + r2)).Sublist ls := List.take_sublist _ _
    rw [hK0] at hs
    refine ⟨lp.sublist hs, Nat.le_trans hs.length_le (by omega), fun e => ?_, fun c hc => by have := ll c (hs.subset hc); omega⟩
    have : K.length = min (1 + r2) 5 := by rw [← hK0, List.length_take, l5]
    rw [e] at this
    simp at this
    omega
  have hLow : ∀ c ∈ K, 97 ≤ c ∧ c < 123 := fun c hc => by rw [← hK0] at hc; exact ll c ((List.take_sublist _ _).subset hc)
  have hKm : K.length ≤ most := by rw [← hK0, List.length_take]; omega
  have hK5 := hK.few
  have hKp : 0 < K.length := List.length_pos_iff.mpr hK.some
  (repeat walk_at "s")
  refine ⟨Nat.zero_le _, ?_⟩
  (repeat walk_at "s")
  refine ⟨Nat.zero_le _, ?_⟩
  (repeat walk_at "s")
  refine ⟨by show 3 ≤ sizeLine; decide, ?_⟩
  refine ⟨_, rfl, ?_⟩
  walk_at "s"
  refine n_for ?_
  (repeat walk_at "s")
  refine ⟨by show 5 ≤ sizeLine; decide, ?_⟩
  (repeat walk_at "s")
  refine take_nat (by decide) (by decide) (by omega) fun r3 h3 => ?_
  refine ⟨_, ix_ints (ns := [0, 0, 1, 2, 3]) h3, ?_⟩
  have hj : ∃ j : Nat, ([0, 0, 1, 2, 3] : List Int)[r3]'h3 = (j : Int) ∧ j ≤ 3 := by
    match r3, h3 with
    | 0, _ => exact ⟨0, rfl, by omega⟩
    | 1, _ => exact ⟨0, rfl, by omega⟩
    | 2, _ => exact ⟨1, rfl, by omega⟩
    | 3, _ => exact ⟨2, rfl, by omega⟩
    | 4, _ => exact ⟨3, rfl, by omega⟩
  obtain ⟨j, ej, hj⟩ := hj
  rw [ej]
  refine ⟨_, rfl, by omega, by omega, fun rest e m => ∃ (rules : List Rule) (x6 x7 x8 : Option Sl), rest.length + rules.length ≤ 3 ∧ RulesOk K rules ∧ n ≤ m + 3 + (3 - rest.length) * 10 ∧
      e = [some .p, some (.d (.int (most : Nat))), some (.d (.str (tx ls))), some (.d (.str (tx K))), some (.d (.list (rules.map ruD))), some (.d (.list [])), x6, x7, x8, none, none],
    ⟨[], none, none, none, by rw [Int.toNat_natCast, rng_len]; simpa using hj, ⟨by simp, by simp, by simp⟩, by omega, rfl⟩, fun x rest e m hI => ?_, fun e m hI => ?_⟩
  · obtain ⟨rules, x6, x7, x8, few, ok, hm, rfl⟩ := hI
    rw [List.length_cons] at few hm
    refine ⟨_, rfl, ?_⟩
    refine n_pick (z := tx K) rfl rfl (by rw [Ls_tx]; omega) ?_
    rw [Ls_tx]
    refine take_nat hKp (by omega) (by omega) fun i hi => ?_
    refine ⟨_, K[i], rfl, atI_nat (List.getElem?_eq_getElem hi), ?_⟩
    refine subset_run (by rw [Ls_tx]; exact Nat.le_trans (List.length_filter_le _ _) (by omega)) (by rw [Ls_tx]; have := List.length_filter_le (fun d => decide (d ≠ K[i])) K; omega) fun l m2 sl hm2 => ?_
    rw [Ls_tx] at sl hm2
    have hfl := List.length_filter_le (fun d => decide (d ≠ K[i])) K
    have pok : l.Sublist K ∧ K[i] ∈ K ∧ K[i] ∉ l := ⟨sl.trans List.filter_sublist, List.getElem_mem _, fun h => by
      have := (List.mem_filter.mp (sl.subset h)).2
      simp at this⟩
    (repeat walk_at "s")
    refine ⟨by show 2 ≤ sizeLine; decide, ?_⟩
    (repeat walk_at "s")
    refine ⟨by show 1 ≤ sizeLine; decide, ?_⟩
    (repeat walk_at "s")
    refine ⟨by show 2 ≤ sizeLine; decide, ?_⟩
    (repeat walk_at "s")
    refine ⟨_, in_rules (l, K[i]) rules, ?_⟩
    refine ⟨_, rfl, ?_⟩
    refine ⟨_, mulT_tst _ (by simp), ?_⟩
    rw [Bool.true_xor]
    by_cases hin : (l, K[i]) ∈ rules
    · rw [decide_eq_true hin]
      refine ⟨_, add_lst (by simp; omega), ?_⟩
      refine ⟨rules, _, _, _, by omega, ok, by omega, by rw [show (if (!true) = true then [PyData.tuple [.str (tx l), .str ⟨#[K[i]]⟩]] else []) = [] from rfl, List.append_nil]; rfl⟩
    · rw [decide_eq_false hin]
      refine ⟨_, add_lst (by simp; omega), ?_⟩
      refine ⟨rules ++ [(l, K[i])], some (.d x), some (.d (sg K[i])), some (.d (.str (tx l))), by rw [List.length_append]; simp; omega, ok.add pok hin (by omega), by omega, ?_⟩
      rw [List.map_append]
      rfl
  · obtain ⟨rules, x6, x7, x8, few, ok, hm, rfl⟩ := hI
    have hm0 : n ≤ m + 33 := by simpa using hm
    -- the keys, whatever the rules are
    have keysOf : ∀ (rules : List Rule) (m : Nat) (x6 x7 x8 x10 : Option Sl), RulesOk K rules → n ≤ m + 40 → MS (sSeq (sFor (wRng1 (wOp pIx (fz (wLst (wCons (wC (.int 0)) (wCons (wC (.int 0)) (wCons (wC (.int 1)) (wCons (wC (.int 2)) wNil)))))) (wCall w__law_take (wAName 0 (wACons (wC (.int 4)) wANil))))) (.nm 6)
        (sSeq (sSet (wOrE (wCall w__law_subset (wAName 0 (wAName 3 wANil))) (wOp pIx (wVar 3) (wNeg (wC (.int 1))))) 9)
        (sSet (wOp pAdd (wVar 5) (wOp pMulT (fz (wLst (wCons (wVal 9) wNil))) (w1 pInt (wOp (pIn2 true) (wVar 9) (wVar 5))))) 5)))
        (sRet (wTup (wCons (wVal 3) (wCons (w1 pTupA (wVar 4)) (wCons (w1 pTupA (wVar 5)) wNil))))))
        [some .p, some (.d (.int (most : Nat))), some (.d (.str (tx ls))), some (.d (.str (tx K))), some (.d (.list (rules.map ruD))), some (.d (.list [])), x6, x7, x8, none, x10] m (fun x m => Q PyData.none m) Q noEnd noEnd := fun rules m x6 x7 x8 x10 ok hm => by
      walk_at "s"
      refine n_for ?_
      (repeat walk_at "s")
      refine ⟨by show 4 ≤ sizeLine; decide, ?_⟩
      (repeat walk_at "s")
      refine take_nat (by decide) (by decide) (by omega) fun r4 h4 => ?_
      refine ⟨_, ix_ints (ns := [0, 0, 1, 2]) h4, ?_⟩
      have hj : ∃ j : Nat, ([0, 0, 1, 2] : List Int)[r4]'h4 = (j : Int) ∧ j ≤ 2 := by
        match r4, h4 with
        | 0, _ => exact ⟨0, rfl, by omega⟩
        | 1, _ => exact ⟨0, rfl, by omega⟩
        | 2, _ => exact ⟨1, rfl, by omega⟩
        | 3, _ => exact ⟨2, rfl, by omega⟩
      obtain ⟨j, ej, hj⟩ := hj
      rw [ej]
      refine ⟨_, rfl, by omega, by omega, fun rest e m => ∃ (keys : List (List Nat)) (x6 x9 : Option Sl), rest.length + keys.length ≤ 2 ∧ KeysOk K keys ∧ n ≤ m + 41 + (2 - rest.length) * 10 ∧
          e = [some .p, some (.d (.int (most : Nat))), some (.d (.str (tx ls))), some (.d (.str (tx K))), some (.d (.list (rules.map ruD))), some (.d (.list (keys.map keD))), x6, x7, x8, x9, x10],
        ⟨[], x6, none, by rw [Int.toNat_natCast, rng_len]; simpa using hj, ⟨by simp, by simp, by simp⟩, by omega, rfl⟩, fun x rest e m hI => ?_, fun e m hI => ?_⟩
      · obtain ⟨keys, x6, x9, few, okk, hm, rfl⟩ := hI
        rw [List.length_cons] at few hm
        refine ⟨_, rfl, ?_⟩
        have put : ∀ (l : List Nat) (m2 : Nat) (x6 : Option Sl), l.Sublist K → l ≠ [] → n ≤ m2 + 41 + (2 - rest.length) * 10 → MS (sSet (wOp pAdd (wVar 5) (wOp pMulT (fz (wLst (wCons (wVal 9) wNil))) (w1 pInt (wOp (pIn2 true) (wVar 9) (wVar 5))))) 5)
            [some .p, some (.d (.int (most : Nat))), some (.d (.str (tx ls))), some (.d (.str (tx K))), some (.d (.list (rules.map ruD))), some (.d (.list (keys.map keD))), x6, x7, x8, some (.d (.str (tx l))), x10] m2
            (fun e2 m2 => ∃ (keys : List (List Nat)) (x6 x9 : Option Sl), rest.length + keys.length ≤ 2 ∧ KeysOk K keys ∧ n ≤ m2 + 41 + (2 - rest.length) * 10 ∧
          e2 = [some .p, some (.d (.int (most : Nat))), some (.d (.str (tx ls))), some (.d (.str (tx K))), some (.d (.list (rules.map ruD))), some (.d (.list (keys.map keD))), x6, x7, x8, x9, x10])
            Q (fun e m => MS (sRet (wTup (wCons (wVal 3) (wCons (w1 pTupA (wVar 4)) (wCons (w1 pTupA (wVar 5)) wNil))))) e m (fun x m => Q PyData.none m) Q noEnd noEnd)
            (fun e2 m2 => ∃ (keys : List (List Nat)) (x6 x9 : Option Sl), rest.length + keys.length ≤ 2 ∧ KeysOk K keys ∧ n ≤ m2 + 41 + (2 - rest.length) * 10 ∧
          e2 = [some .p, some (.d (.int (most : Nat))), some (.d (.str (tx ls))), some (.d (.str (tx K))), some (.d (.list (rules.map ruD))), some (.d (.list (keys.map keD))), x6, x7, x8, x9, x10]) := fun l m2 x6 sl ne hm2 => by
          (repeat walk_at "s")
          refine ⟨by show 1 ≤ sizeLine; decide, ?_⟩
          (repeat walk_at "s")
          refine ⟨_, in_keys l keys, ?_⟩
          refine ⟨_, rfl, ?_⟩
          refine ⟨_, mulT_tst _ (by simp), ?_⟩
          rw [Bool.true_xor]
          by_cases hin : l ∈ keys
          · rw [decide_eq_true hin]
            refine ⟨_, add_lst (by simp; omega), ?_⟩
            refine ⟨keys, _, _, by omega, okk, by omega, by rw [show (if (!true) = true then [PyData.str (tx l)] else []) = [] from rfl, List.append_nil]; rfl⟩
          · rw [decide_eq_false hin]
            refine ⟨_, add_lst (by simp; omega), ?_⟩
            refine ⟨keys ++ [l], x6, some (.d (.str (tx l))), by rw [List.length_append]; simp; omega, okk.add ⟨sl, ne⟩ hin (by omega), by omega, ?_⟩
            rw [List.map_append]
            rfl
        walk_at "s"
        walk_at "s"
        (repeat walk_at "s")
        refine subset_run (by rw [Ls_tx]; omega) (by rw [Ls_tx]; omega) fun l m2 sl hm2 => ?_
        rw [Ls_tx] at sl hm2
        refine ⟨_, tru_str (by rw [Ls_tx]; have := sl.length_le; omega), fun h => ?_, fun h => ?_⟩
        · rw [Ls_tx] at h
          refine put l m2 _ sl (fun e => by subst e; cases h) (by omega)
        · (repeat walk_at "s")
          refine ⟨_, rfl, ?_⟩
          refine ⟨_, ix_last hK.some (by omega), ?_⟩
          exact put [K.getLast hK.some] m2 _ (List.singleton_sublist.mpr (List.getLast_mem _)) (by simp) (by omega)
      · obtain ⟨keys, x6, x9, few, okk, hm, rfl⟩ := hI
        (repeat walk_at "s")
        refine ⟨_, rfl, ?_⟩
        (repeat walk_at "s")
        refine ⟨_, rfl, ?_⟩
        (repeat walk_at "s")
        exact ⟨by show 3 ≤ sizeLine; decide, q K rules keys m hK hLow hKm ok okk (by simp at hm; omega)⟩
    (repeat walk_at "s")
    refine take_run (by decide) (by decide) (by omega) fun r r0 r1 => ?_
    (repeat walk_at "s"); walk_at "e"; walk_at "r"
    refine ⟨fun h => ?_, fun h => ?_⟩
    · (repeat walk_at "s")
      refine m_lcF (fun _ => true) (fun x => match x with | .int k => ruD ([K.getD k.toNat 0], K.getD (k.toNat + 1) 0) | _ => .none) ?_
      (repeat walk_at "s")
      refine ⟨_, len_str (by rw [Ls_tx]; omega), ?_⟩
      rw [Ls_tx]
      (repeat walk_at "s")
      refine ⟨.int ((K.length - 1 : Nat) : Int), by
        show some (PyData.int ((K.length : Int) - 1)) = _
        rw [Int.natCast_sub (by omega)]
        rfl, ?_⟩
      refine ⟨_, rfl, by omega, by omega, by rw [Int.toNat_natCast, rng_len, sizeLine_eq]; omega, fun x hx => ?_, ?_⟩
      · rw [Int.toNat_natCast] at hx
        obtain ⟨k, hk, rfl⟩ := List.mem_map.mp hx
        have hk' := List.mem_range.mp hk
        refine ⟨_, rfl, fun m => ?_, fun _ m => ?_⟩
        · walk_at "s"; exact ⟨rfl, rfl⟩
        · rw [Int.zero_add]
          (repeat walk_at "s")
          refine ⟨_, ix_str (k := k) (by omega) (by omega), ?_⟩
          (repeat walk_at "s")
          refine ⟨.int ((k + 1 : Nat) : Int), by rw [Int.natCast_add]; rfl, ?_⟩
          refine ⟨_, ix_str (k := k + 1) (by omega) (by omega), ?_⟩
          (repeat walk_at "s")
          refine ⟨by show 2 ≤ sizeLine; decide, ?_, rfl⟩
          show PyData.tuple [sg K[k], sg K[k + 1]] = PyData.tuple [.str (tx [K.getD (Int.toNat (k : Int)) 0]), sg (K.getD (Int.toNat (k : Int) + 1) 0)]
          rw [Int.toNat_natCast]
          have e1 : K.getD k 0 = K[k] := by simp [List.getD, List.getElem?_eq_getElem (show k < K.length by omega)]
          have e2 : K.getD (k + 1) 0 = K[k + 1] := by simp [List.getD, List.getElem?_eq_getElem (show k + 1 < K.length by omega)]
          rw [e1, e2]
          rfl
      · have el : ((rngD 0 ((K.length - 1 : Nat) : Int).toNat).filter fun _ => true).map (fun x => match x with | .int k => ruD ([K.getD k.toNat 0], K.getD (k.toNat + 1) 0) | _ => PyData.none) = (chainR K).map ruD := by
          rw [List.filter_eq_self.mpr fun _ _ => rfl, Int.toNat_natCast]
          refine List.ext_getElem? fun i => ?_
          rw [List.getElem?_map, List.getElem?_map]
          unfold rngD
          rw [List.getElem?_map]
          by_cases hi : i < K.length - 1
          · rw [List.getElem?_range hi, chain_get (by omega)]
            simp [List.getD, List.getElem?_eq_getElem (show i < K.length by omega), List.getElem?_eq_getElem (show i + 1 < K.length by omega)]
          · rw [List.getElem?_eq_none (by rw [List.length_range]; omega), List.getElem?_eq_none (by rw [chain_len]; omega)]
            rfl
        rw [el]
        refine ⟨_, rfl, ?_⟩
        (repeat walk_at "s")
        refine ⟨_, ix_str (k := 0) (by omega) (by omega), ?_⟩
        (repeat walk_at "s")
        refine ⟨by show 2 ≤ sizeLine; decide, ?_⟩
        (repeat walk_at "s")
        refine ⟨by show 1 ≤ sizeLine; decide, ?_⟩
        (repeat walk_at "s")
        refine take_nat (k := 2) (by decide) (by decide) (by omega) fun t ht => ?_
        refine ⟨_, mulT_nat t (by simp; omega) (by omega), ?_⟩
        refine ⟨_, add_lst (by
          have hcl := chain_len K
          match t, ht with
          | 0, _ => simp; omega
          | 1, _ => simp; omega), ?_⟩
        have e2 : ((chainR K).map ruD).reverse ++ (List.replicate t [PyData.tuple [.str "", sg (K[0]'hKp)]]).flatten = ((chainR K).reverse ++ (List.replicate t [([], K.head hK.some)]).flatten).map ruD := by
          rw [List.map_append, List.map_reverse]
          have hh : K.head hK.some = K[0]'hKp := by rw [List.head_eq_getElem]
          have he : PyData.tuple [.str "", sg (K[0]'hKp)] = ruD ([], K.head hK.some) := by rw [hh]; rfl
          match t, ht with
          | 0, _ => rfl
          | 1, _ => rw [he]; rfl
        rw [e2]
        refine keysOf _ _ _ _ _ _ (chain_ok hK t (by omega)) ?_
        omega
    · walk_at "s"
      refine keysOf rules _ _ _ _ _ ok ?_
      omega
end
section
variable {n : Nat} {Q : PyData → Nat → Prop} {K : List Nat} {rules : List Rule} {keys : List (List Nat)}
theorem cell_ix {c : Nat} {r : List Int} (hK : ColsOk K) (hr : r.length = K.length) (hc : c ∈ K) : eIx (tI r) (.int (K.idxOf c : Nat)) = some (.int (r.getD (K.idxOf c) 0)) := by
  have h4 : K.idxOf c < K.length := List.idxOf_lt_length_iff.mpr hc
  have h5 : K.idxOf c < (r.map PyData.int).length := by rw [List.length_map, hr]; exact h4
  have := ix_natT h5
  unfold tI
  rw [this, List.getElem_map, List.getD_eq_getElem?_getD, List.getElem?_eq_getElem (by rw [hr]; exact h4)]
  rfl
theorem cols_nodup (hK : ColsOk K) : K.Nodup := hK.asc.imp fun h => Nat.ne_of_lt h
theorem cells_run {part : List Nat} {r : List Int} (hK : ColsOk K) (hr : r.length = K.length) (hp : ∀ c ∈ part, c ∈ K) (hl : part.length ≤ 1000) (q : Q (liD (prj K part r)) n) : MD w__law_cells [.d (schD K rules keys), .d (tI r), .d (.str (tx part))] n Q := by
  refine md_def rfl rfl ?_
  unfold t__law_cells
  (repeat walk_at "s")
  refine m_lcM part sg (fun c => .int (r.getD (K.idxOf c) 0)) ?_
  (repeat walk_at "s")
  refine ⟨_, seq_str _, by rw [Ls_tx], by rw [sizeLine_eq]; omega, fun c hc => ⟨_, rfl, fun m => ?_⟩, ?_⟩
  · (repeat walk_at "s"); walk_at "e"
    refine ⟨_, rfl, ?_⟩
    (repeat walk_at "s")
    refine ⟨_, index_sg (cols_nodup hK) (hp c hc), ?_⟩
    exact ⟨_, cell_ix hK hr (hp c hc), rfl, rfl⟩
  · have : part.map (fun c => PyData.int (r.getD (K.idxOf c) 0)) = (prj K part r).map .int := by simp [prj]
    rw [this]
    exact q
theorem projected_run {part : List Nat} {rows : List (List Int)} (hK : ColsOk K) (hr : ∀ r ∈ rows, r.length = K.length) (hp : ∀ c ∈ part, c ∈ K) (hl : part.length ≤ 1000) (few : rows.length < 1000) (q : Q (.list ((rows.map (prj K part)).map tI)) n) :
    MD w_projected [.d (.str (tx K)), .d (.str (tx part)), .d (.list (rows.map tI))] n Q := by
  refine md_def rfl rfl ?_
  unfold t_projected
  walk_at "s"; walk_at "s"; walk_at "s"
  refine m_lcM part sg (fun c => .int (K.idxOf c : Nat)) ?_
  (repeat walk_at "s")
  refine ⟨_, seq_str _, by rw [Ls_tx], by rw [sizeLine_eq]; omega, fun c hc => ⟨_, rfl, fun m => ?_⟩, ?_⟩
  · (repeat walk_at "s")
    refine ⟨_, rfl, ?_⟩
    (repeat walk_at "s")
    exact ⟨_, index_sg (cols_nodup hK) (hp c hc), rfl, rfl⟩
  · walk_at "s"; walk_at "s"
    refine m_lcM rows tI (fun r => tI (prj K part r)) ?_
    (repeat walk_at "s")
    refine ⟨_, rfl, rfl, by rw [sizeLine_eq]; omega, fun r hrr => ⟨_, rfl, fun m => ?_⟩, ?_⟩
    · walk_at "s"; walk_at "s"
      refine m_lcM part (fun c => .int (K.idxOf c : Nat)) (fun c => .int (r.getD (K.idxOf c) 0)) ?_
      (repeat walk_at "s")
      refine ⟨_, rfl, rfl, by rw [sizeLine_eq]; omega, fun c hc => ⟨_, rfl, fun m => ?_⟩, ?_⟩
      · (repeat walk_at "s")
        exact ⟨_, cell_ix hK (hr r hrr) (hp c hc), rfl, rfl⟩
      · refine ⟨_, rfl, ?_, rfl⟩
        simp [tI, prj]
    · rw [List.map_map] at q
      exact q
end
theorem in_false {α : Type} (f : α → Bool) (neg : Bool) (xs : List α) : eIn neg (.bool false) (.list (xs.map fun x => .bool (f x))) = some (.bool (neg ^^ !xs.all f)) := by
  show eInL neg (.bool false) (.list _) = _
  unfold eInL
  show (if _ then _ else _) = _
  rw [if_pos (by simp [dfree, PyData.depth])]
  refine congrArg (fun b => some (PyData.bool (neg ^^ b))) ?_
  rw [List.any_map]
  have : ((fun z => PyData.eqv z (.bool false)) ∘ fun x => PyData.bool (f x)) = fun x => !f x := by
    funext x
    show PyData.eqv (.bool (f x)) (.bool false) = _
    cases f x <;> simp [PyData.eqv]
  rw [this, List.not_all_eq_any_not]
section
variable {n : Nat} {Q : PyData → Nat → Prop} {K : List Nat} {rules : List Rule} {keys : List (List Nat)} {v : PyData}
theorem fits_run {r o : List Int} (hK : ColsOk K) (hR : RulesOk K rules) (hY : KeysOk K keys) (hr : r.length = K.length) (ho : o.length = K.length) (q : Q (.bool (fitsB K rules keys r o)) n) :
    MD w__law_fits [.d (schD K rules keys), .d (tI r), .d (tI o)] n Q := by
  have hK5 := hK.few
  refine md_def rfl rfl ?_
  unfold t__law_fits
  walk_at "s"
  refine n_for ?_
  (repeat walk_at "s"); walk_at "e"
  refine ⟨_, rfl, fun rest e m => m = n ∧ ∃ (pre post : List Rule) (x3 x4 : Option Sl), rules = pre ++ post ∧ rest = post.map ruD ∧ (pre.all fun p => !decide (prj K p.1 r = prj K p.1 o) || decide (prj K [p.2] r = prj K [p.2] o)) = true ∧
    e = [some (.d (schD K rules keys)), some (.d (tI r)), some (.d (tI o)), x3, x4, none], ⟨rfl, [], rules, none, none, rfl, rfl, rfl, rfl⟩, fun x rest e m hI => ?_, fun e m hI => ?_⟩
  · obtain ⟨rfl, pre, post, x3, x4, e1, e2, hp, rfl⟩ := hI
    cases post with
    | nil => cases e2
    | cons p post =>
    rw [List.map_cons] at e2
    obtain ⟨rfl, rfl⟩ := List.cons.inj e2
    obtain ⟨p1, p2, p3⟩ := hR.one p (by rw [e1]; simp)
    have hl : p.1.length ≤ 1000 := Nat.le_trans p1.length_le (by omega)
    have hs : ∀ c ∈ p.1, c ∈ K := fun c hc => p1.subset hc
    have hs2 : ∀ c ∈ [p.2], c ∈ K := fun c hc => by rw [List.mem_singleton.mp hc]; exact p2
    refine ⟨_, rfl, ?_⟩
    (repeat walk_at "s")
    refine cells_run hK hr hs hl ?_
    (repeat walk_at "s")
    refine cells_run hK ho hs hl ?_
    refine ⟨_, eq_liD _ _, ?_⟩
    walk_at "r"
    refine ⟨fun h => ?_, fun h => ?_⟩
    · have h1 : prj K p.1 r = prj K p.1 o := of_decide_eq_true h
      (repeat walk_at "s")
      refine cells_run (part := [p.2]) hK hr hs2 (by simp) ?_
      (repeat walk_at "s")
      refine cells_run (part := [p.2]) hK ho hs2 (by simp) ?_
      refine ⟨_, ne2_liD _ _, ?_⟩
      walk_at "r"
      refine ⟨fun h => ?_, fun h => ?_⟩
      · have h2 : ¬ prj K [p.2] r = prj K [p.2] o := by simpa using h
        (repeat walk_at "s")
        have e : fitsB K rules keys r o = false := by
          unfold fitsB
          rw [e1, List.all_append, List.all_cons, decide_eq_true h1, decide_eq_false h2]
          simp
        rw [e] at q
        exact q
      · have h2 : prj K [p.2] r = prj K [p.2] o := by simpa using h
        (repeat walk_at "s")
        exact ⟨rfl, pre ++ [p], post, _, _, by rw [e1]; simp, rfl, by rw [List.all_append, hp, List.all_cons, decide_eq_true h2]; simp, rfl⟩
    · have h1 : ¬ prj K p.1 r = prj K p.1 o := of_decide_eq_false h
      (repeat walk_at "s")
      exact ⟨rfl, pre ++ [p], post, _, _, by rw [e1]; simp, rfl, by rw [List.all_append, hp, List.all_cons, decide_eq_false h1]; simp, rfl⟩
  · obtain ⟨rfl, pre, post, x3, x4, e1, e2, hp, rfl⟩ := hI
    have e0 : post = [] := by cases post with | nil => rfl | cons c r => cases e2
    subst e0
    rw [List.append_nil] at e1
    subst e1
    walk_at "s"; walk_at "s"; walk_at "s"
    refine m_lcK keys keD keD (fun k => decide (prj K k r = prj K k o)) ?_
    (repeat walk_at "s"); walk_at "e"
    refine ⟨_, rfl, rfl, by rw [sizeLine_eq]; have := hY.few; omega, fun k hk => ⟨_, rfl, fun m => ?_, fun m => ?_⟩, ?_⟩
    · obtain ⟨k1, k2⟩ := hY.one k hk
      have hl : k.length ≤ 1000 := Nat.le_trans k1.length_le (by omega)
      (repeat walk_at "s")
      refine cells_run hK hr (fun c hc => k1.subset hc) hl ?_
      (repeat walk_at "s")
      refine cells_run hK ho (fun c hc => k1.subset hc) hl ?_
      exact ⟨_, eq_liD _ _, _, rfl, rfl, rfl⟩
    · (repeat walk_at "s")
      exact ⟨rfl, rfl⟩
    · (repeat walk_at "s")
      refine ⟨Nat.zero_le _, _, eq_nilL _, ?_⟩
      have e : fitsB K rules keys r o = ((keys.filter fun k => decide (prj K k r = prj K k o)).map keD).isEmpty := by
        unfold fitsB
        rw [hp, Bool.true_and, List.isEmpty_map, Bool.eq_iff_iff, List.isEmpty_iff, List.filter_eq_nil_iff, List.all_eq_true]
        simp
      rw [e] at q
      exact q
end
def okI (x : Int) : Prop := -1000000000000000000000000000000000000000 < x ∧ x < 1000000000000000000000000000000000000000
structure RowsOk (K : List Nat) (rows : List (List Int)) : Prop where
  len : ∀ r ∈ rows, r.length = K.length
  small : ∀ r ∈ rows, ∀ x ∈ r, okI x
theorem RowsOk.snoc {K : List Nat} {rows : List (List Int)} {r : List Int} (h : RowsOk K rows) (hl : r.length = K.length) (hs : ∀ x ∈ r, okI x) : RowsOk K (rows ++ [r]) :=
  ⟨fun o ho => by
    rcases List.mem_append.mp ho with ho | ho
    · exact h.len o ho
    · rw [List.mem_singleton.mp ho]; exact hl, fun o ho => by
    rcases List.mem_append.mp ho with ho | ho
    · exact h.small o ho
    · rw [List.mem_singleton.mp ho]; exact hs⟩
theorem shifts_ok : ∀ x ∈ ([0, 2, 11, -8, -1000] : List Int), -1000 ≤ x ∧ x ≤ 11 := by decide
def ll : List Int → List Int → Bool
  | [], _ => true
  | _ :: _, [] => false
  | a :: x, b :: y => decide (a < b) || (decide (a = b) && ll x y)
theorem ll_le : ∀ a b : List Int, decide (a ≤ b) = ll a b
  | [], b => by
    rw [show ll [] b = true from rfl]
    exact decide_eq_true (List.nil_le b)
  | a :: x, [] => by
    rw [show ll (a :: x) [] = false from rfl]
    exact decide_eq_false (by simp)
  | a :: x, b :: y => by
    show decide (a :: x ≤ b :: y) = (decide (a < b) || (decide (a = b) && ll x y))
    rw [← ll_le x y, Bool.eq_iff_iff, decide_eq_true_eq, List.cons_le_cons_iff]
    simp
theorem ll_refl : ∀ a : List Int, ll a a = true
  | [] => rfl
  | a :: x => by simp [ll, ll_refl x]
theorem ll_total : ∀ a b : List Int, ll a b = true ∨ ll b a = true
  | [], _ => .inl rfl
  | _ :: _, [] => .inr rfl
  | a :: x, b :: y => by
    simp only [ll, Bool.or_eq_true, Bool.and_eq_true, decide_eq_true_eq]
    rcases Int.lt_trichotomy a b with h | h | h
    · exact .inl (.inl h)
    · rcases ll_total x y with z | z
      · exact .inl (.inr ⟨h, z⟩)
      · exact .inr (.inr ⟨h.symm, z⟩)
    · exact .inr (.inl h)
theorem ll_trans : ∀ {a b c : List Int}, ll a b = true → ll b c = true → ll a c = true
  | [], _, _, _, _ => rfl
  | a :: x, [], _, h, _ => nomatch h
  | a :: x, b :: y, [], _, h => nomatch h
  | a :: x, b :: y, c :: z, h1, h2 => by
    simp only [ll, Bool.or_eq_true, Bool.and_eq_true, decide_eq_true_eq] at h1 h2 ⊢
    rcases h1 with h1 | ⟨h1, h1'⟩
    · rcases h2 with h2 | ⟨h2, _⟩
      · exact .inl (by omega)
      · exact .inl (by omega)
    · rcases h2 with h2 | ⟨h2, h2'⟩
      · exact .inl (by omega)
      · exact .inr ⟨by omega, ll_trans h1' h2'⟩
theorem ll_anti : ∀ {a b : List Int}, ll a b = true → ll b a = true → a = b
  | [], [], _, _ => rfl
  | [], _ :: _, _, h => nomatch h
  | _ :: _, [], h, _ => nomatch h
  | a :: x, b :: y, h1, h2 => by
    simp only [ll, Bool.or_eq_true, Bool.and_eq_true, decide_eq_true_eq] at h1 h2
    have e : a = b := by omega
    subst e
    have z1 : ll x y = true := by rcases h1 with h | h; · omega
                                  · exact h.2
    have z2 : ll y x = true := by rcases h2 with h | h; · omega
                                  · exact h.2
    rw [ll_anti z1 z2]
section
variable {α : Type}
abbrev leB (f : α → List Int) : α → α → Bool := fun a b => ll (f a) (f b)
def AscB (f : α → List Int) (l : List α) : Prop := l.Pairwise fun a b => ll (f a) (f b) = true
theorem asc_ms (f : α → List Int) (l : List α) : AscB f (l.mergeSort (leB f)) :=
  List.pairwise_mergeSort (le := leB f) (fun a b c h1 h2 => (ll_trans h1 h2 : ll (f a) (f c) = true)) (fun a b => by rw [Bool.or_eq_true]; exact ll_total (f a) (f b)) l
theorem ms_filter (f : α → List Int) (v : List Int) (l : List α) : (l.mergeSort (leB f)).filter (fun a => decide (f a = v)) = l.filter fun a => decide (f a = v) := by
  have h1 : (l.filter fun a => decide (f a = v)).Pairwise fun a b => leB f a b = true := by
    rw [List.pairwise_iff_forall_sublist]
    intro a b h
    have ha := of_decide_eq_true (List.mem_filter.mp (h.subset List.mem_cons_self)).2
    have hb := of_decide_eq_true (List.mem_filter.mp (h.subset (List.mem_cons_of_mem _ List.mem_cons_self))).2
    show ll (f a) (f b) = true
    rw [ha, hb]
    exact ll_refl v
  have h2 := List.sublist_mergeSort (fun a b c h1 h2 => (ll_trans h1 h2 : leB f a c = true)) (fun a b => by rw [Bool.or_eq_true]; exact ll_total (f a) (f b)) h1 List.filter_sublist
  have h3 := h2.filter fun a => decide (f a = v)
  rw [List.filter_filter] at h3
  have e : (l.filter fun a => decide (f a = v) && decide (f a = v)) = l.filter fun a => decide (f a = v) := List.filter_congr fun a _ => Bool.and_self _
  rw [e] at h3
  exact (h3.eq_of_length (((List.mergeSort_perm l (leB f)).filter _).length_eq).symm).symm
theorem ms_stable {R : α → α → Prop} (f : α → List Int) {l : List α} (h : l.Pairwise R) : (l.mergeSort (leB f)).Pairwise fun a b => f a = f b → R a b := by
  rw [List.pairwise_iff_forall_sublist] at h ⊢
  intro a b hs e
  have h1 := hs.filter fun x => decide (f x = f b)
  have e2 : [a, b].filter (fun x => decide (f x = f b)) = [a, b] := by simp [e]
  rw [e2, ms_filter] at h1
  exact h (h1.trans List.filter_sublist)
end
theorem le_li {β : Type} (x : β → List Int) : W.dataLe false (fun b => liD (x b)) = fun p q => ll (x p) (x q) := by
  have := W.dataLe_rows x
  unfold liD
  rw [this]
  funext p q
  exact ll_le _ _
theorem le_ti {β : Type} (x : β → List Int) : W.dataLe false (fun b => tI (x b)) = fun p q => ll (x p) (x q) := le_li x
def keptL (K : List Nat) : Stp → List Nat
  | .col l => l
  | _ => K
def isG : Stp → Bool
  | .grp _ _ => true
  | _ => false
/-- its numbers are small -/
def StpSm : Stp → Prop
  | .whr _ v => v.natAbs ≤ 100000
  | .cut _ i => i ≤ 100000
  | .srt _ p => p ≠ []
  | .col l => l ≠ []
  | _ => True
def StpFull (K : List Nat) : Stp → Prop
  | .whr c v => c ∈ K ∧ v.natAbs ≤ 100000
  | .srt _ p => (∀ c ∈ p, c ∈ K) ∧ p.Nodup ∧ p ≠ []
  | .cut _ n => n ≤ 20
  | .col l => l.Sublist K ∧ l ≠ []
  | .grp _ _ => False
def isSrtS : Stp → Bool
  | .srt _ _ => true
  | _ => false
def isCutS : Stp → Bool
  | .cut _ _ => true
  | _ => false
/-- a filter's value is small -/
def tinyS : Stp → Bool
  | .whr _ v => decide (v.natAbs ≤ 3000)
  | _ => true
def tinyD (d : PyData) : Prop := ∀ st, d = stpD st → tinyS st = true
theorem tiny_two (a b : PyData) : tinyD (.tuple [a, b]) := fun st e => by
  cases st with
  | whr c v => simp [stpD] at e
  | _ => rfl
theorem tiny_str (a b : PyData) (z : Str) : tinyD (.tuple [a, b, .str z]) := fun st e => by
  cases st with
  | whr c v => simp [stpD] at e
  | _ => rfl
theorem tiny_whr {a b : PyData} {i : Int} (h : i.natAbs ≤ 3000) : tinyD (.tuple [a, b, .int i]) := fun st e => by
  cases st with
  | whr c v =>
    have : i = v := by simp [stpD] at e; exact e.2.2
    subst this
    exact decide_eq_true h
  | _ => rfl
structure DStep (K : List Nat) (behind : Bool) (d : PyData) : Prop where
  ex : ∃ st, d = stpD st ∧ StpOk K st ∧ ColsOk (keptL K st) ∧ (keptL K st).Sublist K ∧ isG st = false ∧ StpSm st ∧ StpFull K st ∧ (behind = true → isSrtS st = false) ∧ (behind = false → isCutS st = false)
  fit : Fit 300 1 d
  tiny : tinyD d
theorem sub_cols {K l : List Nat} (hK : ColsOk K) (s : l.Sublist K) (ne : l ≠ []) : ColsOk l := ⟨hK.asc.sublist s, Nat.le_trans s.length_le hK.few, ne, fun c hc => hK.low c (s.subset hc)⟩
theorem fit_tx {l : List Nat} (h : l.length ≤ 5) (h2 : ∀ c ∈ l, c < 128) : Fit 100 0 (.str (tx l)) := Fit.str (by rw [Ls_tx]; omega) (by rw [Ls_tx]; exact h2)
theorem fit_word : ∀ w ∈ (["where", "sort", "stable", "first", "skip", "columns", "count", "sum", "heads", "limit", "", "a", "ba", "aa", "zz", "c"] : List Str), Fit 100 0 (.str w) := by
  intro w hw
  have : (Ls w).length ≤ 100 ∧ ∀ c ∈ Ls w, c < 128 := by
    revert w
    decide +kernel
  exact Fit.str this.1 this.2
theorem fit_pair {a b : PyData} {B C : Nat} (h : Fit B 0 a) (h2 : Fit C 0 b) : Fit (B + C + 2) 1 (.tuple [a, b]) := (Fit.tup (FitS.cons h (FitS.cons h2 FitS.nil))).le (by omega) (Nat.le_refl _)
theorem fit_three {a b c : PyData} {B C D : Nat} (h : Fit B 0 a) (h2 : Fit C 0 b) (h3 : Fit D 0 c) : Fit (B + C + D + 3) 1 (.tuple [a, b, c]) := (Fit.tup (FitS.cons h (FitS.cons h2 (FitS.cons h3 FitS.nil)))).le (by omega) (Nat.le_refl _)
theorem small_int {i : Int} (h : i.natAbs ≤ 100000) : Fit 0 0 (.int i) := Fit.int (Nat.lt_of_le_of_lt h (by decide))
section
variable {n : Nat} {Q : PyData → Nat → Prop} {K : List Nat}
theorem dstep_sort {w : Str} {l p : List Nat} (hw : w = Str.ofString "sort" ∨ w = Str.ofString "stable") (hK : ColsOk K) (s : l.Sublist K) (ne : l ≠ []) (h : p.Perm l) : DStep K false (.tuple [.str w, .str (tx p)]) := by
  have pl : p.length = l.length := h.length_eq
  have hl := s.length_le
  have h5 := hK.few
  have ok : (∀ c ∈ p, c ∈ K) ∧ p.Nodup := ⟨fun c hc => s.subset (h.mem_iff.mp hc), h.symm.nodup ((hK.asc.imp fun q => Nat.ne_of_lt q).sublist s)⟩
  refine ⟨?_, (fit_pair (fit_word w (by rcases hw with e | e <;> subst e <;> decide +kernel)) (fit_tx (by omega) fun c hc => hK.low c (s.subset (h.mem_iff.mp hc)))).le (by omega) (Nat.le_refl _), tiny_two _ _⟩
  have pne : p ≠ [] := fun e => ne (by rw [e] at pl; exact List.length_eq_zero_iff.mp pl.symm)
  rcases hw with rfl | rfl
  · exact ⟨.srt false p, rfl, ok, hK, List.Sublist.refl _, rfl, pne, ⟨ok.1, ok.2, pne⟩, fun z => (nomatch z), fun _ => rfl⟩
  · exact ⟨.srt true p, rfl, ok, hK, List.Sublist.refl _, rfl, pne, ⟨ok.1, ok.2, pne⟩, fun z => (nomatch z), fun _ => rfl⟩
theorem dstep_cut {w : Str} {i : Int} (hw : w = Str.ofString "first" ∨ w = Str.ofString "skip") (hK : ColsOk K) (h0 : 0 ≤ i) (h1 : i ≤ 20) : DStep K true (.tuple [.str w, .int i]) := by
  refine ⟨?_, (fit_pair (fit_word w (by rcases hw with e | e <;> subst e <;> decide +kernel)) (small_int (i := i) (by omega))).le (by omega) (Nat.le_refl _), tiny_two _ _⟩
  obtain ⟨j, rfl⟩ : ∃ j : Nat, i = (j : Int) := ⟨i.toNat, by omega⟩
  rcases hw with rfl | rfl
  · exact ⟨.cut true j, rfl, trivial, hK, List.Sublist.refl _, rfl, (by show j ≤ 100000; omega), (by show j ≤ 20; omega), fun _ => rfl, fun z => nomatch z⟩
  · exact ⟨.cut false j, rfl, trivial, hK, List.Sublist.refl _, rfl, (by show j ≤ 100000; omega), (by show j ≤ 20; omega), fun _ => rfl, fun z => nomatch z⟩
theorem dstep_cols {l : List Nat} (b : Bool) (hK : ColsOk K) (s : l.Sublist K) (ne : l ≠ []) : DStep K b (.tuple [.str "columns", .str (tx l)]) := by
  have hl := s.length_le
  have h5 := hK.few
  exact ⟨⟨.col l, rfl, s, sub_cols hK s ne, s, rfl, ne, ⟨s, ne⟩, fun _ => rfl, fun _ => rfl⟩, (fit_pair (fit_word "columns" (by decide +kernel)) (fit_tx (by omega) fun c hc => hK.low c (s.subset hc))).le (by omega) (Nat.le_refl _), tiny_two _ _⟩
theorem dstep_where {c : Nat} {i : Int} (b : Bool) (hK : ColsOk K) (hc : c ∈ K) (hi0 : i.natAbs ≤ 3000) : DStep K b (.tuple [.str "where", sg c, .int i]) :=
  have hi : i.natAbs ≤ 100000 := Nat.le_trans hi0 (by decide)
  ⟨⟨.whr c i, rfl, hc, hK, List.Sublist.refl _, rfl, hi, ⟨hc, hi⟩, fun _ => rfl, fun _ => rfl⟩, (fit_three (fit_word "where" (by decide +kernel)) (fit_tx (l := [c]) (by simp) fun d hd => by rw [List.mem_singleton] at hd; subst hd; exact hK.low _ hc) (small_int hi)).le (by omega) (Nat.le_refl _), tiny_whr hi0⟩
theorem ix_shift (r : Nat) (h : r < 5) : ∃ i : Int, eIx (.list [.int 0, .int 2, .int 11, .int (-8), .int (-1000)]) (.int (r : Int)) = some (.int i) ∧ i.natAbs ≤ 1000 := by
  refine ⟨([0, 2, 11, -8, -1000] : List Int)[r]'h, ix_ints (ns := [0, 2, 11, -8, -1000]) h, ?_⟩
  match r, h with
  | 0, _ => exact (by decide : (0 : Int).natAbs ≤ 1000)
  | 1, _ => exact (by decide : (2 : Int).natAbs ≤ 1000)
  | 2, _ => exact (by decide : (11 : Int).natAbs ≤ 1000)
  | 3, _ => exact (by decide : (-8 : Int).natAbs ≤ 1000)
  | 4, _ => exact (by decide : (-1000 : Int).natAbs ≤ 1000)
theorem mod_3 (a : Nat) : eMod (.int (a : Int)) (.int 3) = some (.int ((a % 3 : Nat) : Int)) := by
  show (if decide ((0 : Int) < 3) = true then some (PyData.int ((a : Int) % 3)) else none) = _
  rw [if_pos (by decide)]
  rfl
theorem words_fs (r : Nat) (h : r < 3) : ∃ w : Str, ([.str "first", .str "first", .str "skip"] : List PyData)[r]'h = .str w ∧ (w = Str.ofString "first" ∨ w = Str.ofString "skip") := by
  match r, h with
  | 0, _ => exact ⟨_, rfl, .inl rfl⟩
  | 1, _ => exact ⟨_, rfl, .inl rfl⟩
  | 2, _ => exact ⟨_, rfl, .inr rfl⟩
theorem draw_step_run {b : Bool} {size : Nat} (hK : ColsOk K) (hs : 1 ≤ size) (hs2 : size ≤ 21) (hn : 50 ≤ n) (q : ∀ d m, DStep K b d → n ≤ m + 50 → Q d m) : MD w__law_draw_step [.p, .d (.str (tx K)), .d (.bool b), .d (.int (size : Nat))] n Q := by
  have h5 := hK.few
  have hKp : 0 < K.length := List.length_pos_iff.mpr hK.some
  refine md_def rfl rfl ?_
  unfold t__law_draw_step
  (repeat walk_at "s")
  refine take_nat (k := 9) (by decide) (by decide) (by omega) fun way hway => ?_
  -- the end: columns, where
  have fin : ∀ m, n ≤ m + 5 → MS (sSeq (sIf (wTt (wOp pEq2 (wVar 4) (wC (.int 8))))
      (sRet (wTup (wCons (wC (.str "columns")) (wCons (wOrE (wCall w__law_subset (wAName 0 (wAName 1 wANil))) (wVal 1)) wNil))))
      sNext)
      (sRet (wTup (wCons (wC (.str "where")) (wCons (wOp pIx (wVar 1) (wCall w__law_take (wAName 0 (wACons (w1 pLen (wVar 1)) wANil)))) (wCons (wOp pSub (wCall w__law_take (wAName 0 (wACons (wC (.int 3)) wANil))) (wOp pIx (fz (wLst (wCons (wC (.int 0)) (wCons (wC (.int 2)) (wCons (wC (.int 11)) (wCons (wNeg (wC (.int 8))) (wCons (wNeg (wC (.int 1000))) wNil))))))) (wCall w__law_take (wAName 0 (wACons (wC (.int 5)) wANil))))) wNil))))))
      [some .p, some (.d (.str (tx K))), some (.d (.bool b)), some (.d (.int (size : Nat))), some (.d (.int (way : Nat))), none] m (fun x m => Q PyData.none m) Q noEnd noEnd := fun m hm => by
    (repeat walk_at "s"); walk_at "e"; walk_at "r"
    refine ⟨fun h => ?_, fun h => ?_⟩
    · (repeat walk_at "s")
      refine subset_run (by rw [Ls_tx]; omega) (by rw [Ls_tx]; omega) fun l m2 sl hm2 => ?_
      rw [Ls_tx] at sl hm2
      have hl := sl.length_le
      refine ⟨_, tru_str (by rw [Ls_tx]; omega), fun h => ?_, fun h => ?_⟩
      · rw [Ls_tx] at h
        (repeat walk_at "s")
        exact ⟨by show 2 ≤ sizeLine; decide, q _ _ (dstep_cols b hK sl (fun e => by subst e; cases h)) (by omega)⟩
      · (repeat walk_at "s")
        exact ⟨by show 2 ≤ sizeLine; decide, q _ _ (dstep_cols b hK (List.Sublist.refl _) hK.some) (by omega)⟩
    · walk_at "s"
      (repeat walk_at "s")
      refine ⟨_, len_str (by rw [Ls_tx]; omega), ?_⟩
      rw [Ls_tx]
      (repeat walk_at "s")
      refine take_nat hKp (by omega) (by omega) fun r hr => ?_
      refine ⟨_, ix_str hr (by omega), ?_⟩
      (repeat walk_at "s")
      refine take_nat (k := 3) (by decide) (by decide) (by omega) fun r2 hr2 => ?_
      (repeat walk_at "s")
      refine ⟨_, rfl, ?_⟩
      (repeat walk_at "s")
      refine ⟨_, rfl, ?_⟩
      (repeat walk_at "s")
      refine ⟨by show 5 ≤ sizeLine; decide, ?_⟩
      (repeat walk_at "s")
      refine take_nat (k := 5) (by decide) (by decide) (by omega) fun r3 hr3 => ?_
      obtain ⟨i, ei, hi⟩ := ix_shift r3 hr3
      refine ⟨_, ei, ?_⟩
      refine ⟨_, rfl, ?_⟩
      (repeat walk_at "s")
      exact ⟨by show 3 ≤ sizeLine; decide, q _ _ (dstep_where b hK (List.getElem_mem hr) (by omega)) (by omega)⟩
  (repeat walk_at "s")
  refine ⟨_, rfl, ?_⟩
  walk_at "r"
  -- the cuts
  have cuts : ∀ m, n ≤ m + 3 → MS (sSeq (sIf (wAndT (wTt (wOp pLt (wVar 4) (wC (.int 6)))) (wTru (wVar 2)))
      (sRet (wTup (wCons (wOp pIx (fz (wLst (wCons (wC (.str "first")) (wCons (wC (.str "first")) (wCons (wC (.str "skip")) wNil))))) (wOp pMod (wVar 4) (wC (.int 3)))) (wCons (wCall w__law_take (wAName 0 (wACons (wOp pIx (fz (wLst (wCons (wVal 3) (wCons (wVal 3) (wCons (wVal 3) (wCons (wC (.int 21)) wNil)))))) (wCall w__law_take (wAName 0 (wACons (wC (.int 4)) wANil)))) wANil))) wNil))))
      sNext)
      (sSeq (sIf (wTt (wOp pEq2 (wVar 4) (wC (.int 8))))
      (sRet (wTup (wCons (wC (.str "columns")) (wCons (wOrE (wCall w__law_subset (wAName 0 (wAName 1 wANil))) (wVal 1)) wNil))))
      sNext)
      (sRet (wTup (wCons (wC (.str "where")) (wCons (wOp pIx (wVar 1) (wCall w__law_take (wAName 0 (wACons (w1 pLen (wVar 1)) wANil)))) (wCons (wOp pSub (wCall w__law_take (wAName 0 (wACons (wC (.int 3)) wANil))) (wOp pIx (fz (wLst (wCons (wC (.int 0)) (wCons (wC (.int 2)) (wCons (wC (.int 11)) (wCons (wNeg (wC (.int 8))) (wCons (wNeg (wC (.int 1000))) wNil))))))) (wCall w__law_take (wAName 0 (wACons (wC (.int 5)) wANil))))) wNil)))))))
      [some .p, some (.d (.str (tx K))), some (.d (.bool b)), some (.d (.int (size : Nat))), some (.d (.int (way : Nat))), none] m (fun x m => Q PyData.none m) Q noEnd noEnd := fun m hm => by
    walk_at "s"
    walk_at "s"
    (repeat walk_at "s")
    refine ⟨_, rfl, ?_⟩
    walk_at "r"
    refine ⟨fun h => ?_, fun h => ?_⟩
    · (repeat walk_at "s"); walk_at "r"
      refine ⟨fun hb => ?_, fun hb => ?_⟩
      · subst hb
        (repeat walk_at "s")
        refine ⟨by show 3 ≤ sizeLine; decide, ?_⟩
        (repeat walk_at "s")
        refine ⟨_, mod_3 way, ?_⟩
        obtain ⟨w, ew, hw⟩ := words_fs (way % 3) (Nat.mod_lt _ (by decide))
        have e3 := ix_nat (xs := ([.str "first", .str "first", .str "skip"] : List PyData)) (k := way % 3) (show way % 3 < 3 from Nat.mod_lt _ (by decide))
        rw [ew] at e3
        refine ⟨_, e3, ?_⟩
        (repeat walk_at "s")
        refine ⟨by show 4 ≤ sizeLine; decide, ?_⟩
        (repeat walk_at "s")
        refine take_nat (k := 4) (by decide) (by decide) (by omega) fun r hr => ?_
        refine ⟨_, ix_ints (ns := [(size : Int), (size : Int), (size : Int), 21]) hr, ?_⟩
        have hz : ∃ z : Nat, ([(size : Int), (size : Int), (size : Int), 21] : List Int)[r]'hr = (z : Int) ∧ 1 ≤ z ∧ z ≤ 21 := by
          match r, hr with
          | 0, _ => exact ⟨size, rfl, hs, hs2⟩
          | 1, _ => exact ⟨size, rfl, hs, hs2⟩
          | 2, _ => exact ⟨size, rfl, hs, hs2⟩
          | 3, _ => exact ⟨21, rfl, by omega, by omega⟩
        obtain ⟨z, ez, z1, z2⟩ := hz
        rw [ez]
        (repeat walk_at "s")
        refine take_nat (k := z) (by omega) (by omega) (by omega) fun r2 hr2 => ?_
        (repeat walk_at "s")
        exact ⟨by show 2 ≤ sizeLine; decide, q _ _ (dstep_cut hw hK (by omega) (by omega)) (by omega)⟩
      · walk_at "s"
        exact fin m (by omega)
    · refine ⟨fun h2 => Bool.noConfusion h2, fun _ => ?_⟩
      walk_at "s"
      exact fin m (by omega)
  refine ⟨fun h => ?_, fun h => ?_⟩
  · have hw4 : way < 4 := by have := of_decide_eq_true h; omega
    (repeat walk_at "s"); walk_at "r"
    refine ⟨fun hb => ?_, fun hb => ?_⟩
    · have hb0 : b = false := by cases b with | false => rfl | true => cases hb
      subst hb0
      (repeat walk_at "s")
      refine subset_run (by rw [Ls_tx]; omega) (by rw [Ls_tx]; omega) fun l m2 sl hm2 => ?_
      rw [Ls_tx] at sl hm2
      have hl := sl.length_le
      have go : ∀ (l : List Nat) (m2 : Nat), l.Sublist K → l ≠ [] → n ≤ m2 + 10 → MD w__law_mixed [.p, .d (.str (tx l))] m2 fun d m => MS (sRet (wTup (wCons (wOp pIx (fz (wLst (wCons (wC (.str "sort")) (wCons (wC (.str "sort")) (wCons (wC (.str "sort")) (wCons (wC (.str "stable")) wNil)))))) (wVar 4)) (wCons (wVal 5) wNil))))
          [some .p, some (.d (.str (tx K))), some (.d (.bool false)), some (.d (.int (size : Nat))), some (.d (.int (way : Nat))), some (.d d)] m (fun e m => noEnd e m) Q noEnd noEnd := fun l m2 sl ne hm2 => by
        have hl := sl.length_le
        refine mixed_run (by rw [Ls_tx]; omega) (by rw [Ls_tx]; omega) fun p m3 pp hm3 => ?_
        rw [Ls_tx] at pp hm3
        (repeat walk_at "s")
        refine ⟨by show 4 ≤ sizeLine; decide, ?_⟩
        (repeat walk_at "s")
        have hw : ∃ w : Str, ([.str "sort", .str "sort", .str "sort", .str "stable"] : List PyData)[way]'hw4 = .str w ∧ (w = Str.ofString "sort" ∨ w = Str.ofString "stable") := by
          match way, hw4 with
          | 0, _ => exact ⟨_, rfl, .inl rfl⟩
          | 1, _ => exact ⟨_, rfl, .inl rfl⟩
          | 2, _ => exact ⟨_, rfl, .inl rfl⟩
          | 3, _ => exact ⟨_, rfl, .inr rfl⟩
        obtain ⟨w, ew, hw⟩ := hw
        refine ⟨_, ix_nat hw4, ?_⟩
        rw [ew]
        (repeat walk_at "s")
        exact ⟨by show 2 ≤ sizeLine; decide, q _ _ (dstep_sort hw hK sl ne pp) (by omega)⟩
      refine ⟨_, tru_str (by rw [Ls_tx]; omega), fun h => ?_, fun h => ?_⟩
      · rw [Ls_tx] at h
        (repeat walk_at "s")
        exact (go l m2 sl (fun e => by subst e; cases h) (by omega)).imp fun d m hd => hd.mid (fun _ _ h => h.elim) fun _ _ h => h
      · (repeat walk_at "s")
        refine ⟨_, rfl, ?_⟩
        refine ⟨_, sl_to (l := K) (k := 1) (by omega) (by omega), ?_⟩
        (repeat walk_at "s")
        have h1 : (K.take 1) ≠ [] := fun e => by
          rcases List.take_eq_nil_iff.mp e with z | z
          · cases z
          · exact hK.some z
        exact (go (K.take 1) m2 (List.take_sublist _ _) h1 (by omega)).imp fun d m hd => hd.mid (fun _ _ h => h.elim) fun _ _ h => h
    · walk_at "s"
      exact cuts _ (by omega)
  · refine ⟨fun h2 => Bool.noConfusion h2, fun _ => ?_⟩
    walk_at "s"
    exact cuts _ (by omega)
end
/-- how a report ends -/
inductive Fin where
  | non
  | cnt (g : List Nat)
  | sum (g : List Nat) (c : Nat)
  | hds (g : List Nat)
def finS : Fin → List Stp
  | .non => []
  | .cnt g => [.grp "count" [.str (tx g)]]
  | .sum g c => [.grp "sum" [.str (tx g), sg c]]
  | .hds g => [.grp "heads" [.str (tx g)]]
def FinOk (l : List Nat) : Fin → Prop
  | .non => True
  | .cnt g => g.Sublist l
  | .sum g c => g.Sublist l ∧ c ∈ l
  | .hds g => g.Sublist l
def keptR (K : List Nat) (sts : List Stp) : List Nat := sts.foldl keptL K
/-- each step by what is kept ahead of it -/
def Chn : List Nat → List Stp → Prop
  | _, [] => True
  | K, s :: r => StpOk K s ∧ StpSm s ∧ isG s = false ∧ Chn (keptL K s) r
theorem chn_snoc {st : Stp} : ∀ {sts : List Stp} {K : List Nat}, Chn K sts → StpOk (sts.foldl keptL K) st → StpSm st → isG st = false → Chn K (sts ++ [st])
  | [], K, _, h1, h2, h3 => ⟨h1, h2, h3, trivial⟩
  | s :: r, K, ⟨a, b, c, d⟩, h1, h2, h3 => ⟨a, b, c, chn_snoc d h1 h2 h3⟩
structure DRep (K : List Nat) (most : Nat) (xs : List PyData) : Prop where
  ex : ∃ (sts : List Stp) (f : Fin), xs = (sts ++ finS f).map stpD ∧ sts.length ≤ most ∧ (∀ st ∈ sts, StpOk K st ∧ StpSm st) ∧ (∀ st ∈ sts, isG st = false) ∧ FinOk (keptR K sts) f ∧ ColsOk (keptR K sts) ∧ (keptR K sts).Sublist K ∧ FitS (500 * (most + 1)) 1 xs ∧ Chn K sts
theorem kept_snoc {K : List Nat} {sts : List Stp} {st : Stp} : keptR K (sts ++ [st]) = keptL (keptR K sts) st := by
  unfold keptR
  rw [List.foldl_append]
  rfl
theorem _root_.Pu.StpOk.mono {l K : List Nat} (s : l.Sublist K) : ∀ {st : Stp}, StpOk l st → StpOk K st
  | .whr _ _, h => s.subset h
  | .srt _ _, h => ⟨fun c hc => s.subset (h.1 c hc), h.2⟩
  | .cut _ _, _ => trivial
  | .col _, h => h.trans s
  | .grp _ _, h => h
/-- steps one behind another, no sort behind a cut -/
def Prg : List Nat → Bool → List Stp → Prop
  | _, _, [] => True
  | K, cut, s :: r => StpFull K s ∧ (cut && isSrtS s) = false ∧ Prg (keptL K s) (cut || isCutS s) r
def cutR (c : Bool) (sts : List Stp) : Bool := c || sts.any isCutS
def FinFull (l : List Nat) : Fin → Prop
  | .non => True
  | .cnt g => g.Sublist l ∧ g ≠ []
  | .sum g c => g.Sublist l ∧ g ≠ [] ∧ c ∈ l ∧ c ∉ g
  | .hds g => g.Sublist l ∧ g ≠ []
section
variable {K : List Nat} {sts : List Stp} {st : Stp} {cut : Bool}
theorem StpFull.ok (h : StpFull K st) : StpOk K st ∧ StpSm st ∧ isG st = false := by
  cases st with
  | whr c v => exact ⟨h.1, h.2, rfl⟩
  | srt b p => exact ⟨⟨h.1, h.2.1⟩, h.2.2, rfl⟩
  | cut b n => exact ⟨trivial, Nat.le_trans h (by decide), rfl⟩
  | col l => exact ⟨h.1, h.2, rfl⟩
  | grp w r => exact h.elim
theorem StpFull.kept (hK : ColsOk K) (h : StpFull K st) : ColsOk (keptL K st) ∧ (keptL K st).Sublist K := by
  cases st with
  | col l => exact ⟨sub_cols hK h.1 h.2, h.1⟩
  | grp w r => exact h.elim
  | _ => exact ⟨hK, List.Sublist.refl _⟩
theorem prg_snoc : ∀ {sts : List Stp} {K : List Nat} {cut : Bool}, Prg K cut sts → StpFull (keptR K sts) st → (cutR cut sts && isSrtS st) = false → Prg K cut (sts ++ [st])
  | [], K, cut, _, h, hc => by
    refine ⟨h, ?_, trivial⟩
    simpa [cutR] using hc
  | s :: r, K, cut, ⟨h1, h2, h3⟩, h, hc => by
    refine ⟨h1, h2, prg_snoc h3 h ?_⟩
    simpa [cutR, Bool.or_assoc] using hc
end
/-- a group's columns are some -/
def FinNe : Fin → Prop
  | .non => True
  | .cnt g => g ≠ []
  | .sum g c => g ≠ [] ∧ c ∉ g
  | .hds g => g ≠ []
theorem FinFull.ne {l : List Nat} {f : Fin} (h : FinFull l f) : FinNe f := by
  cases f with
  | non => trivial
  | cnt g => exact h.2
  | sum g c => exact ⟨h.2.1, h.2.2.2⟩
  | hds g => exact h.2
structure DRepN (K : List Nat) (most : Nat) (xs : List PyData) : Prop where
  ex : ∃ (sts : List Stp) (f : Fin), xs = (sts ++ finS f).map stpD ∧ sts.length ≤ most ∧ (∀ st ∈ sts, StpOk K st ∧ StpSm st) ∧ (∀ st ∈ sts, isG st = false) ∧ FinOk (keptR K sts) f ∧ ColsOk (keptR K sts) ∧ (keptR K sts).Sublist K ∧ FitS (500 * (most + 1)) 1 xs ∧ Chn K sts ∧ FinFull (keptR K sts) f ∧ Prg K false sts
  tiny : ∀ d ∈ xs, tinyD d
theorem DRepN.rep {K : List Nat} {most : Nat} {xs : List PyData} (h : DRepN K most xs) : DRep K most xs := by
  obtain ⟨sts, f, h1, h2, h3, h4, h5, h6, h7, h8, h9, _, _⟩ := h.ex
  exact ⟨sts, f, h1, h2, h3, h4, h5, h6, h7, h8, h9⟩
section
variable {n : Nat} {Q : PyData → Nat → Prop} {K : List Nat} {sr : List PyData}
theorem kept_expr {env : En} {i j : Nat} {st : Stp} (so : StpOk K st) (ng : isG st = false) (hi : vVar i env = some (stpD st)) (hj : vVal j env = some (.str (tx K))) (q : Q (.str (tx (keptL K st))) n) :
    ME (wIfE (wTt (wOp pEq2 (wOp pIx (wVar i) (wC (.int 0))) (wC (.str "columns")))) (wOp pIx (wVar i) (wC (.int 1))) (wVal j)) env n Q := by
  walk_at "s"; walk_at "s"; walk_at "s"; walk_at "s"
  refine m_var hi ?_
  (repeat walk_at "s")
  cases st with
  | col l =>
    walk_at "e"
    (repeat walk_at "s"); walk_at "e"
    walk_at "r"
    walk_at "t"
    walk_at "s"
    refine m_var hi ?_
    (repeat walk_at "s")
    exact ⟨_, ix_t1 _ _ _, q⟩
  | srt b p =>
    cases b <;> (walk_at "e"; (repeat walk_at "s"); walk_at "e"; walk_at "r"; walk_at "f"; exact m_val hj q)
  | cut b p =>
    cases b <;> (walk_at "e"; (repeat walk_at "s"); walk_at "e"; walk_at "r"; walk_at "f"; exact m_val hj q)
  | whr c v => walk_at "e"; (repeat walk_at "s"); walk_at "e"; walk_at "r"; walk_at "f"; exact m_val hj q
  | grp w r => cases ng
theorem grp_fit {w : Str} {l g : List Nat} (hw : w = Str.ofString "count" ∨ w = Str.ofString "heads") (hl : ColsOk l) (s : g.Sublist l) : Fit 300 1 (.tuple [.str w, .str (tx g)]) := by
  have hgl := s.length_le
  have h5 := hl.few
  exact (fit_pair (fit_word w (by rcases hw with e | e <;> subst e <;> decide +kernel)) (fit_tx (by omega) fun c hc => hl.low c (s.subset hc))).le (by omega) (Nat.le_refl _)
theorem sum_fit {l g : List Nat} {c : Nat} (hl : ColsOk l) (s : g.Sublist l) (hc : c ∈ l) : Fit 400 1 (.tuple [.str "sum", .str (tx g), sg c]) := by
  have hgl := s.length_le
  have h5 := hl.few
  exact (fit_three (fit_word "sum" (by decide +kernel)) (fit_tx (by omega) fun c hc => hl.low c (s.subset hc)) (fit_tx (l := [c]) (by simp) fun d hd => by rw [List.mem_singleton] at hd; subst hd; exact hl.low _ hc)).le (by omega) (Nat.le_refl _)
theorem draw_reportN_run {most size : Nat} (hK : ColsOk K) (hm : most ≤ 7) (hs : 1 ≤ size) (hs2 : size ≤ 21) (hn : 600 ≤ n) (q : ∀ xs m, DRepN K most xs → n ≤ m + 600 → Q (.tuple xs) m) : MD w__law_draw_report [.p, .d (.tuple (.str (tx K) :: sr)), .d (.int (most : Nat)), .d (.int (size : Nat))] n Q := by
  have h5 := hK.few
  refine md_def rfl rfl ?_
  unfold t__law_draw_report
  (repeat walk_at "s"); walk_at "e"
  (repeat walk_at "s")
  refine ⟨Nat.zero_le _, ?_⟩
  (repeat walk_at "s")
  refine ⟨.int ((most + 1 : Nat) : Int), rfl, ?_⟩
  (repeat walk_at "s")
  refine take_nat (k := most + 1) (by omega) (by omega) (by omega) fun early hearly => ?_
  walk_at "s"
  refine n_for ?_
  (repeat walk_at "s")
  refine ⟨.int ((most + 1 : Nat) : Int), rfl, ?_⟩
  (repeat walk_at "s")
  refine take_nat (k := most + 1) (by omega) (by omega) (by omega) fun j hj => ?_
  refine ⟨_, rfl, by omega, by omega, fun rest e m => ∃ (k : Nat) (sts : List Stp) (l : List Nat) (x7 x8 : Option Sl), rest = (rngD 0 j).drop k ∧ sts.length = k ∧ k ≤ j ∧ keptR K sts = l ∧ (∀ st ∈ sts, isG st = false) ∧ ColsOk l ∧ l.Sublist K ∧ (∀ st ∈ sts, StpOk K st ∧ StpSm st) ∧ FitS (301 * k) 1 (sts.map stpD) ∧ (Chn K sts ∧ Prg K false sts ∧ (sts.any isCutS = true → early < k) ∧ ∀ d ∈ sts.map stpD, tinyD d) ∧ n ≤ m + 2 + k * 50 ∧
      e = [some .p, some (.d (.tuple (.str (tx K) :: sr))), some (.d (.int (most : Nat))), some (.d (.int (size : Nat))), some (.d (.str (tx l))), some (.l (sts.map stpD)), some (.d (.int (early : Nat))), x7, x8, none, none, none, none],
    ⟨0, [], K, none, none, by rw [Int.toNat_natCast]; rfl, rfl, by omega, rfl, (fun _ z => (nomatch z)), hK, List.Sublist.refl _, fun _ z => (nomatch z), FitS.nil.le (by omega) (by omega), ⟨trivial, trivial, (fun z => (nomatch z)), (fun _ z => (nomatch z))⟩, by omega, rfl⟩, fun x rest e m hI => ?_, fun e m hI => ?_⟩
  · obtain ⟨k, sts, l, x7, x8, er, lx, kj, ekp, hng, hl, lK, hst, hf, ⟨hch, hpr, hcut, hty⟩, hmm, rfl⟩ := hI
    obtain ⟨ex, er2, hkj⟩ := rng_at j er
    rw [Int.zero_add] at ex
    subst ex
    refine ⟨_, rfl, ?_⟩
    (repeat walk_at "s")
    refine ⟨_, rfl, ?_⟩
    (repeat walk_at "s")
    refine draw_step_run (b := decide ((early : Int) ≤ (k : Int))) hl hs hs2 (by omega) fun d m2 hd hm2 => ?_
    obtain ⟨st, ed, so, hk, ks, ng, sm, full, hb1, hb2⟩ := hd.ex
    walk_at "s"; walk_at "s"
    refine kept_expr (K := l) (st := st) so ng (by subst ed; rfl) rfl ?_
    refine n_app rfl ?_
    walk_at "s"
    refine ⟨by rw [List.length_map]; have z := sizeLine_eq; omega, k + 1, sts ++ [st], keptL l st, some (.d (.int (k : Nat))), some (.d d), er2, by rw [List.length_append]; simp; omega, hkj, by rw [kept_snoc, ekp], fun s hs => (List.mem_append.mp hs).elim (hng s) fun z => by rw [List.mem_singleton.mp z]; exact ng, hk, ks.trans lK, fun s hs => ?_, ?_, ⟨chn_snoc hch (by show StpOk (keptR K sts) st; rw [ekp]; exact so) sm ng, prg_snoc hpr (by rw [ekp]; exact full) ?_, fun z => ?_, fun d2 hd2 => ?_⟩, by omega, by rw [List.map_append, ed]; rfl⟩
    · rcases List.mem_append.mp hs with z | z
      · exact hst s z
      · rw [List.mem_singleton.mp z]; exact ⟨so.mono lK, sm⟩
    · rw [List.map_append]
      exact (hf.append (FitS.cons (by rw [← ed]; exact hd.fit) (FitS.nil.le (Nat.le_refl 0) (Nat.zero_le 1)))).le (by omega) (Nat.le_refl _)
    · by_cases ek : early ≤ k
      · rw [hb1 (decide_eq_true (by omega)), Bool.and_false]
      · have : sts.any isCutS = false := by
          cases z : sts.any isCutS with
          | false => rfl
          | true => have := hcut z; omega
        unfold cutR
        rw [this]
        rfl
    · rw [List.any_append, Bool.or_eq_true] at z
      rcases z with z | z
      · have := hcut z; omega
      · by_cases ek : early ≤ k
        · omega
        · have := hb2 (decide_eq_false (by omega))
          simp [this] at z
    · rw [List.map_append] at hd2
      rcases List.mem_append.mp hd2 with z | z
      · exact hty d2 z
      · rw [List.mem_singleton.mp z, ← ed]
        exact hd.tiny
  · obtain ⟨k, sts, l, x7, x8, er, lx, kj, ekp, hng, hl, lK, hst, hf, ⟨hch, hpr, _, hty⟩, hmm, rfl⟩ := hI
    have hl5 := hl.few
    have hlp : 0 < l.length := List.length_pos_iff.mpr hl.some
    (repeat walk_at "s")
    refine take_nat (k := 8) (by decide) (by decide) (by omega) fun way hway => ?_
    -- behind the group
    have go : ∀ (g : List Nat) (m : Nat), g.Sublist l → g ≠ [] → n ≤ m + 590 → MS (sSeq (sSet (fz (fLc (wSeq (wVar 4)) (.nm 12) (wTt (wOp (pIn2 true) (wVar 12) (wVar 10))) (wVal 12) [12])) 11)
        (sSeq (sIf (wTt (wOp pEq2 (wVar 9) (wC (.int 0))))
        (sApp 5 (wTup (wCons (wC (.str "count")) (wCons (wVal 10) wNil))))
        (sIf (wAndT (wTt (wOp pEq2 (wVar 9) (wC (.int 1)))) (wTt (wOp pNe2 (wVar 11) (fz (wLst wNil)))))
        (sApp 5 (wTup (wCons (wC (.str "sum")) (wCons (wVal 10) (wCons (wOp pIx (wVar 11) (wCall w__law_take (wAName 0 (wACons (w1 pLen (wVar 11)) wANil)))) wNil)))))
        (sIf (wTt (wOp pEq2 (wVar 9) (wC (.int 2))))
        (sApp 5 (wTup (wCons (wC (.str "heads")) (wCons (wVal 10) wNil))))
        sNext)))
        (sRet (w1 pTupA (wVar 5)))))
        [some .p, some (.d (.tuple (.str (tx K) :: sr))), some (.d (.int (most : Nat))), some (.d (.int (size : Nat))), some (.d (.str (tx l))), some (.l (sts.map stpD)), some (.d (.int (early : Nat))), x7, x8, some (.d (.int (way : Nat))), some (.d (.str (tx g))), none, none] m (fun x m => Q PyData.none m) Q noEnd noEnd := fun g m sg1 gne hmg => by
      have hgl := sg1.length_le
      walk_at "s"; walk_at "s"; walk_at "s"
      refine m_lcF (fun x => match x with | .str w => !oneIn g w | _ => false) id ?_
      walk_at "s"; walk_at "s"
      refine ⟨_, seq_str (tx l), by rw [List.length_map, Ls_tx, sizeLine_eq]; omega, fun x hx => ?_, ?_⟩
      · obtain ⟨c, hc, e⟩ := List.mem_map.mp hx
        subst e
        refine ⟨_, rfl, fun m => ?_, fun _ m => ?_⟩
        · (repeat walk_at "s")
          refine ⟨_, in_sg _ _, ?_⟩
          walk_at "r"
          exact ⟨by rw [Bool.true_xor, Ls_tx]; rfl, rfl⟩
        · walk_at "s"; exact ⟨rfl, rfl⟩
      have e : ((List.map sg (Ls (tx l))).filter fun x => match x with | .str w => !oneIn g w | _ => false).map id = (l.filter fun c => !decide (c ∈ g)).map sg := by
        rw [List.map_id, List.filter_map, Ls_tx]
        rfl
      rw [e]
      generalize hrest : (l.filter fun c => !decide (c ∈ g)) = rs
      have hrs : ∀ c ∈ rs, c ∈ l ∧ c ∉ g := fun c hc => by
        rw [← hrest] at hc
        have := List.mem_filter.mp hc
        exact ⟨this.1, by simpa using this.2⟩
      have hrl : rs.length ≤ 5 := by rw [← hrest]; exact Nat.le_trans (List.length_filter_le _ _) hl5
      -- the end with a step more, or none
      have fin : ∀ (ys : List PyData) (x11 x12 : Option Sl) (m : Nat), DRepN K most ys → n ≤ m + 595 → MS (sRet (w1 pTupA (wVar 5)))
          [some .p, some (.d (.tuple (.str (tx K) :: sr))), some (.d (.int (most : Nat))), some (.d (.int (size : Nat))), some (.d (.str (tx l))), some (.l ys), some (.d (.int (early : Nat))), x7, x8, some (.d (.int (way : Nat))), some (.d (.str (tx g))), x11, x12] m (fun x m => Q PyData.none m) Q noEnd noEnd := fun ys x11 x12 m hy hm => by
        (repeat walk_at "s")
        exact ⟨_, rfl, q ys m hy (by omega)⟩
      have drep : ∀ (f : Fin) (d : PyData), (finS f).map stpD = [d] → FinOk l f → FinFull l f → Fit 400 1 d → tinyD d → DRepN K most (sts.map stpD ++ [d]) := fun f d ed fo ne h3 ty =>
        ⟨⟨sts, f, by rw [List.map_append, ed], by omega, hst, hng, by rw [ekp]; exact fo, by rw [ekp]; exact hl, by rw [ekp]; exact lK, FitS.le (C := 500 * (most + 1)) (hf.append (FitS.cons h3 (FitS.nil.le (Nat.le_refl 0) (Nat.zero_le 1)))) (by omega) (Nat.le_refl _), hch, by rw [ekp]; exact ne, hpr⟩, fun x hx => (List.mem_append.mp hx).elim (hty x) fun z => by rw [List.mem_singleton.mp z]; exact ty⟩
      have lx1 : (sts.map stpD).length < sizeLine := by rw [List.length_map]; have z := sizeLine_eq; omega
      walk_at "s"
      walk_at "s"
      (repeat walk_at "s"); walk_at "e"; walk_at "r"
      refine ⟨fun h => ?_, fun h => ?_⟩
      · refine n_app rfl ?_
        (repeat walk_at "s")
        have a3 := grp_fit (w := Str.ofString "count") (.inl rfl) hl sg1
        exact ⟨by show 2 ≤ sizeLine; decide, lx1, fin _ _ _ _ (drep (.cnt g) _ rfl sg1 ⟨sg1, gne⟩ (a3.le (by omega) (Nat.le_refl _)) (tiny_two _ _)) (by omega)⟩
      · (repeat walk_at "s"); walk_at "e"; walk_at "r"
        have other : MS (sIf (wTt (wOp pEq2 (wVar 9) (wC (.int 2)))) (sApp 5 (wTup (wCons (wC (.str "heads")) (wCons (wVal 10) wNil)))) sNext)
            [some .p, some (.d (.tuple (.str (tx K) :: sr))), some (.d (.int (most : Nat))), some (.d (.int (size : Nat))), some (.d (.str (tx l))), some (.l (sts.map stpD)), some (.d (.int (early : Nat))), x7, x8, some (.d (.int (way : Nat))), some (.d (.str (tx g))), some (.d (.list (rs.map sg))), none] m
            (fun e m => MS (sRet (w1 pTupA (wVar 5))) e m (fun x m => Q PyData.none m) Q noEnd noEnd) Q noEnd noEnd := by
          (repeat walk_at "s"); walk_at "e"; walk_at "r"
          refine ⟨fun h => ?_, fun h => ?_⟩
          · refine n_app rfl ?_
            (repeat walk_at "s")
            have a3 := grp_fit (w := Str.ofString "heads") (.inr rfl) hl sg1
            exact ⟨by show 2 ≤ sizeLine; decide, lx1, fin _ _ _ _ (drep (.hds g) _ rfl sg1 ⟨sg1, gne⟩ (a3.le (by omega) (Nat.le_refl _)) (tiny_two _ _)) (by omega)⟩
          · walk_at "s"
            exact fin _ _ _ _ ⟨⟨sts, .non, by rw [show finS .non = [] from rfl, List.append_nil], by omega, hst, hng, trivial, by rw [ekp]; exact hl, by rw [ekp]; exact lK, hf.le (by omega) (Nat.le_refl _), hch, trivial, hpr⟩, hty⟩ (by omega)
        refine ⟨fun h1 => ?_, fun h1 => ⟨fun h => Bool.noConfusion h, fun _ => other⟩⟩
        (repeat walk_at "s")
        refine ⟨Nat.zero_le _, _, ne2_nilL (fun c hc => by have := hl.low c (hrs c hc).1; omega), ?_⟩
        walk_at "r"
        refine ⟨fun h2 => ?_, fun h2 => other⟩
        have rp : 0 < rs.length := by
          cases rs with
          | nil => cases h2
          | cons c r => exact Nat.succ_pos _
        refine n_app rfl ?_
        (repeat walk_at "s"); walk_at "r"
        rw [List.length_map]
        (repeat walk_at "s")
        refine take_nat rp (by omega) (by omega) fun r hr => ?_
        refine ⟨_, ix_nat (xs := rs.map sg) (k := r) (by rw [List.length_map]; exact hr), ?_⟩
        rw [List.getElem_map]
        (repeat walk_at "s")
        obtain ⟨b1, b2⟩ := hrs _ (List.getElem_mem hr)
        have a3 := sum_fit hl sg1 b1
        exact ⟨by show 3 ≤ sizeLine; decide, lx1, fin _ _ _ _ (drep (.sum g _) _ rfl ⟨sg1, b1⟩ ⟨sg1, gne, b1, b2⟩ a3 (tiny_str _ _ _)) (by omega)⟩
    walk_at "s"
    walk_at "s"
    (repeat walk_at "s")
    refine subset_run (by rw [Ls_tx]; omega) (by rw [Ls_tx]; omega) fun g m2 sl hm2 => ?_
    rw [Ls_tx] at sl hm2
    refine ⟨_, tru_str (by rw [Ls_tx]; have := sl.length_le; omega), fun h => ?_, fun h => ?_⟩
    · rw [Ls_tx] at h
      exact go g m2 sl (fun e => by subst e; cases h) (by omega)
    · (repeat walk_at "s")
      refine ⟨_, rfl, ?_⟩
      refine ⟨_, ix_last hl.some (by omega), ?_⟩
      exact go [l.getLast hl.some] m2 (List.singleton_sublist.mpr (List.getLast_mem _)) (by simp) (by omega)
end
abbrev Row : Type := List Int
def ordD (o : List Nat) : PyData := .list (o.map fun (k : Nat) => .int (k : Int))
def pick (G : List Row) (o : List Nat) : List Row := o.map fun k => G.getD k []
/-- rows behind a step that draws nothing -/
def oneS (K : List Nat) : Stp → List Row → List Row
  | .whr c v, G => G.filter fun g => decide (prj K [c] g = [v])
  | .srt true p, G => G.mergeSort (leB (prj K p))
  | .cut true n, G => G.take n
  | .cut false n, G => G.drop n
  | _, G => G
def isSrt0 : Stp → Bool
  | .srt false _ => true
  | _ => false
/-- rows behind the steps, by orders for the sorts -/
def Way (K : List Nat) : List Stp → List Row → List (List Nat) → List Row → Prop
  | [], G, os, G' => os = [] ∧ G' = G
  | .srt false p :: r, G, os, G' => ∃ o os', os = o :: os' ∧ o.Perm (List.range G.length) ∧ AscB (prj K p) (pick G o) ∧ Way K r (pick G o) os' G'
  | s :: r, G, os, G' => Way K r (oneS K s G) os G'
theorem way_one {K : List Nat} {s : Stp} {r : List Stp} {G G' : List Row} {os : List (List Nat)} (h : isSrt0 s = false) : Way K (s :: r) G os G' = Way K r (oneS K s G) os G' := by
  cases s with
  | srt b p => cases b with
    | true => rfl
    | false => cases h
  | _ => rfl
theorem pick_perm {G : List Row} {o : List Nat} (h : o.Perm (List.range G.length)) : (pick G o).Perm G := by
  have e : (List.range G.length).map (fun k => G.getD k []) = G := by
    refine List.ext_getElem (by simp) fun i h1 h2 => ?_
    rw [List.getElem_map, List.getElem_range, List.getD_eq_getElem?_getD, List.getElem?_eq_getElem h2]
    rfl
  have := h.map fun k => G.getD k []
  rw [e] at this
  exact this
theorem RowsOk.perm {K : List Nat} {G G' : List Row} (h : RowsOk K G) (p : G'.Perm G) : RowsOk K G' := ⟨fun r hr => h.len r (p.mem_iff.mp hr), fun r hr => h.small r (p.mem_iff.mp hr)⟩
theorem RowsOk.sub {K : List Nat} {G G' : List Row} (h : RowsOk K G) (s : ∀ r ∈ G', r ∈ G) : RowsOk K G' := ⟨fun r hr => h.len r (s r hr), fun r hr => h.small r (s r hr)⟩
theorem one_len {K : List Nat} (s : Stp) (G : List Row) : (oneS K s G).length ≤ G.length := by
  cases s with
  | whr c v => exact List.length_filter_le _ _
  | srt b p => cases b with
    | true => exact Nat.le_of_eq (List.length_mergeSort _)
    | false => exact Nat.le_refl _
  | cut b n => cases b with
    | true => show (G.take n).length ≤ _; rw [List.length_take]; omega
    | false => show (G.drop n).length ≤ _; rw [List.length_drop]; omega
  | col l => exact Nat.le_refl _
  | grp w r => exact Nat.le_refl _
theorem one_mem {K : List Nat} (s : Stp) (G : List Row) : ∀ r ∈ oneS K s G, r ∈ G := fun r hr => by
  cases s with
  | whr c v => exact (List.mem_filter.mp hr).1
  | srt b p => cases b with
    | true => exact List.mem_mergeSort.mp hr
    | false => exact hr
  | cut b n => cases b with
    | true => exact List.mem_of_mem_take hr
    | false => exact List.mem_of_mem_drop hr
  | col l => exact hr
  | grp w r => exact hr
section
variable {ti : WF} {ta tb : WE} {env : En} {n ip : Nat} {own : List Nat} {QL : List PyData → Nat → Prop}
theorem m_sortK (h : ME ti env n fun ds m => ds.length ≤ 1000 ∧ ∃ key : PyData → PyData, W.AllAlike (ds.map key) ∧ W.Sortable (ds.map key) ∧ (∀ d ∈ ds, (key d).depth ≤ 40) ∧
    (∀ x ∈ ds, ∀ m', ME tb (wipeE (env.set ip (some (.d x))) own) m' fun d m2 => d = key x ∧ m2 = m') ∧ QL (ds.mergeSort (W.dataLe false key)) m) : ME (wSortK ti ip own tb) env n QL :=
  fun b P hb k => h b _ hb fun ds m b1 ⟨ln, key, al, so, dp, each, q⟩ hb1 => ⟨ln, key, al, so, dp, fun x hx => each x hx b1 b1 _ (Nat.le_refl _) fun d m2 b2 ⟨e, l⟩ hb2 => ⟨e, by omega⟩, k _ m b1 q hb1⟩
theorem m_colD (h : ME ta env n fun d m => ∃ ds, (d = .list ds ∨ d = .tuple ds) ∧ QL ds m) : ME (wColD ta) env n QL := fun b P hb k => h b _ hb fun d m b1 ⟨ds, e, q⟩ hb1 => ⟨ds, e, k _ m b1 q hb1⟩
theorem m_colR (h : ME ta env n fun d m => ∃ j : Nat, d = .int (j : Int) ∧ j ≤ 1000 ∧ QL (rngD 0 j) m) : ME (wColR ta) env n QL := fun b P hb k => h b _ hb fun d m b1 ⟨j, e, l, q⟩ hb1 => ⟨j, e, l, k _ m b1 q hb1⟩
theorem m_listR (h : ME ta env n fun d m => ∃ j : Nat, d = .int (j : Int) ∧ j ≤ 1000 ∧ QL (rngD 0 j) m) : ME (wLstR ta) env n QL := fun b P hb k => h b _ hb fun d m b1 ⟨j, e, l, q⟩ hb1 => ⟨j, e, l, k _ m b1 q hb1⟩
end
theorem alike_ints : ∀ a b : List Int, W.alikeAll (a.map .int) (b.map .int) = true
  | [], _ => by simp [W.alikeAll]
  | _ :: _, [] => by simp [W.alikeAll]
  | a :: x, b :: y => by
    rw [List.map_cons, List.map_cons, W.alikeAll, alike_ints x y]
    simp [W.alike]
theorem alike_li {β : Type} (f : β → List Int) (l : List β) : W.AllAlike (l.map fun b => liD (f b)) := by
  intro d hd d' hd'
  obtain ⟨x, _, rfl⟩ := List.mem_map.mp hd
  obtain ⟨y, _, rfl⟩ := List.mem_map.mp hd'
  show W.alike (.list _) (.list _) = true
  rw [W.alike]
  exact alike_ints _ _
theorem alike_ti {β : Type} (f : β → List Int) (l : List β) : W.AllAlike (l.map fun b => tI (f b)) := by
  intro d hd d' hd'
  obtain ⟨x, _, rfl⟩ := List.mem_map.mp hd
  obtain ⟨y, _, rfl⟩ := List.mem_map.mp hd'
  show W.alike (.tuple _) (.tuple _) = true
  rw [W.alike]
  exact alike_ints _ _
theorem sortable_li {β : Type} (f : β → List Int) (l : List β) : W.Sortable (l.map fun b => liD (f b)) := .inr fun d hd => by
  obtain ⟨x, _, rfl⟩ := List.mem_map.mp hd
  exact ⟨fun z => (nomatch z), fun _ z => (nomatch z)⟩
theorem sortable_ti {β : Type} (f : β → List Int) (l : List β) (h : ∀ b ∈ l, f b ≠ []) : W.Sortable (l.map fun b => tI (f b)) := .inl fun d hd => by
  obtain ⟨x, hx, rfl⟩ := List.mem_map.mp hd
  cases e : f x with
  | nil => exact absurd e (h x hx)
  | cons a r => exact ⟨.int a, r.map .int, by simp [tI, e]⟩
def intOf : PyData → Int
  | .int i => i
  | _ => 0
def rowOf : PyData → Row
  | .tuple xs => xs.map intOf
  | .list xs => xs.map intOf
  | _ => []
theorem rowOf_tI (g : Row) : rowOf (tI g) = g := by
  show (g.map PyData.int).map intOf = g
  rw [List.map_map]
  exact List.map_id _
theorem sl_take (xs : List Row) (i : Nat) : eSl none (some (i : Int)) (.list (xs.map tI)) = some (.list ((xs.take i).map tI)) := by
  show some (PyData.list (Pu.cutD (xs.map tI) none (some (i : Int)))) = _
  rw [cutD_to, List.map_take]
theorem sl_drop (xs : List Row) (i : Nat) : eSl (some (i : Int)) none (.list (xs.map tI)) = some (.list ((xs.drop i).map tI)) := by
  show some (PyData.list (Pu.cutD (xs.map tI) (some (i : Int)) none)) = _
  rw [cutD_from, List.map_drop]
theorem depth_ints (a : List Int) : PyData.depthAll (a.map .int) = 0 := by
  induction a with
  | nil => rfl
  | cons x r ih => simp [PyData.depthAll, PyData.depth, ih]
theorem depth_li (a : List Int) : (liD a).depth ≤ 1 := by
  unfold liD
  rw [PyData.depth, depth_ints]
  omega
theorem depth_ti (a : List Int) : (tI a).depth ≤ 1 := by
  unfold tI
  rw [PyData.depth, depth_ints]
  omega
section
variable {n : Nat} {Q : PyData → Nat → Prop} {K : List Nat} {rules : List Rule} {keys : List (List Nat)} {G : List Row}
theorem one_way_run {st : Stp} (hK : ColsOk K) (so : StpOk K st) (ns : isSrt0 st = false) (ng : isG st = false) (hG : RowsOk K G) (few : G.length ≤ 100) (q : Q (.list ((oneS K st G).map tI)) n) :
    MD w__law_one_way [.d (schD K rules keys), .d (.list (G.map tI)), .d (stpD st)] n Q := by
  have h5 := hK.few
  refine md_def rfl rfl ?_
  unfold t__law_one_way
  cases st with
  | whr c v =>
    (repeat walk_at "s"); walk_at "e"
    (repeat walk_at "s"); walk_at "e"
    walk_at "r"
    walk_at "t"
    walk_at "s"; walk_at "s"
    refine m_lcK G tI tI (fun g => decide (prj K [c] g = [v])) ?_
    (repeat walk_at "s")
    refine ⟨_, rfl, rfl, by rw [sizeLine_eq]; omega, fun g hg => ⟨_, rfl, fun m => ?_, fun m => ?_⟩, q⟩
    · (repeat walk_at "s"); walk_at "e"
      (repeat walk_at "s")
      refine cells_run (part := [c]) hK (hG.len g hg) (fun d hd => by rw [List.mem_singleton.mp hd]; exact so) (by simp) ?_
      (repeat walk_at "s"); walk_at "e"
      (repeat walk_at "s")
      refine ⟨by show 1 ≤ sizeLine; decide, ?_⟩
      refine ⟨_, eq_liD (prj K [c] g) [v], ?_⟩
      walk_at "r"
      exact ⟨rfl, rfl⟩
    · (repeat walk_at "s")
      exact ⟨rfl, rfl⟩
  | srt b p =>
    cases b with
    | false => cases ns
    | true =>
      have lp := nodup_len so.2 so.1
      (repeat walk_at "s"); walk_at "e"
      (repeat walk_at "s"); walk_at "e"
      walk_at "r"
      walk_at "f"
      walk_at "s"; walk_at "s"
      (repeat walk_at "s"); walk_at "e"
      (repeat walk_at "s"); walk_at "e"
      walk_at "r"
      walk_at "t"
      walk_at "s"; walk_at "s"
      refine m_sortK (m_colD ?_)
      (repeat walk_at "s")
      refine ⟨_, .inl rfl, by rw [List.length_map]; omega, fun d => liD (prj K p (rowOf d)), ?_⟩
      have em : (G.map tI).map (fun d => liD (prj K p (rowOf d))) = G.map fun g => liD (prj K p g) := by
        rw [List.map_map]
        exact List.map_congr_left fun g _ => by show liD (prj K p (rowOf (tI g))) = _; rw [rowOf_tI]
      rw [em]
      refine ⟨alike_li _ _, sortable_li _ _, fun d hd => ?_, fun x hx m' => ?_, ?_⟩
      · have := depth_li (prj K p (rowOf d))
        show (liD (prj K p (rowOf d))).depth ≤ 40
        omega
      · obtain ⟨g, hg, rfl⟩ := List.mem_map.mp hx
        (repeat walk_at "s"); walk_at "e"
        (repeat walk_at "s")
        exact cells_run (part := p) hK (hG.len g hg) so.1 (by omega) ⟨by show liD (prj K p g) = liD (prj K p (rowOf (tI g))); rw [rowOf_tI], rfl⟩
      · have es : (G.map tI).mergeSort (W.dataLe false fun d => liD (prj K p (rowOf d))) = (G.mergeSort (leB (prj K p))).map tI := by
          refine (List.map_mergeSort fun a _ b _ => ?_).symm
          rw [le_li fun d => prj K p (rowOf d)]
          show ll (prj K p a) (prj K p b) = ll (prj K p (rowOf (tI a))) (prj K p (rowOf (tI b)))
          rw [rowOf_tI, rowOf_tI]
        rw [es]
        exact q
  | cut b i =>
    cases b with
    | true =>
      (repeat walk_at "s"); walk_at "e"
      (repeat walk_at "s"); walk_at "e"
      walk_at "r"
      walk_at "f"
      (repeat walk_at "s"); walk_at "e"
      (repeat walk_at "s"); walk_at "e"
      walk_at "r"
      walk_at "f"
      (repeat walk_at "s"); walk_at "e"
      (repeat walk_at "s"); walk_at "e"
      walk_at "r"
      walk_at "t"
      (repeat walk_at "s"); walk_at "e"
      refine ⟨_, rfl, ?_⟩
      exact ⟨_, sl_take G i, q⟩
    | false =>
      (repeat walk_at "s"); walk_at "e"
      (repeat walk_at "s"); walk_at "e"
      walk_at "r"
      walk_at "f"
      (repeat walk_at "s"); walk_at "e"
      (repeat walk_at "s"); walk_at "e"
      walk_at "r"
      walk_at "f"
      (repeat walk_at "s"); walk_at "e"
      (repeat walk_at "s"); walk_at "e"
      walk_at "r"
      walk_at "f"
      (repeat walk_at "s"); walk_at "e"
      (repeat walk_at "s"); walk_at "e"
      walk_at "r"
      walk_at "t"
      (repeat walk_at "s"); walk_at "e"
      refine ⟨_, rfl, ?_⟩
      (repeat walk_at "s")
      exact ⟨_, sl_drop G i, q⟩
  | col l =>
    (repeat walk_at "s"); walk_at "e"
    (repeat walk_at "s"); walk_at "e"
    walk_at "r"
    walk_at "f"
    (repeat walk_at "s"); walk_at "e"
    (repeat walk_at "s"); walk_at "e"
    walk_at "r"
    walk_at "f"
    (repeat walk_at "s"); walk_at "e"
    (repeat walk_at "s"); walk_at "e"
    walk_at "r"
    walk_at "f"
    (repeat walk_at "s"); walk_at "e"
    (repeat walk_at "s"); walk_at "e"
    walk_at "r"
    walk_at "f"
    (repeat walk_at "s")
    exact q
  | grp w r => cases ng
end
section
variable {n : Nat} {Q : PyData → Nat → Prop} {K : List Nat} {rules : List Rule} {keys : List (List Nat)} {G : List Row}
theorem way_len : ∀ {sts : List Stp} {G G' : List Row} {os : List (List Nat)}, Way K sts G os G' → os.length = (sts.filter isSrt0).length
  | [], G, G', os, ⟨e1, _⟩ => by subst e1; rfl
  | s :: r, G, G', os, h => by
    by_cases e : isSrt0 s = true
    · rw [List.filter_cons_of_pos e]
      cases s with
      | srt b p => cases b with
        | false =>
          obtain ⟨o, os', rfl, hp, ha, hw⟩ := h
          rw [List.length_cons, List.length_cons, way_len hw]
        | true => cases e
      | _ => cases e
    · have e : isSrt0 s = false := by simpa using e
      rw [way_one e] at h
      rw [List.filter_cons_of_neg (by rw [e]; decide), way_len h]
theorem kind_sort {st : Stp} (ng : isG st = false) : ∃ w r, stpD st = .tuple (w :: r) ∧ eNe2 w (.str "sort") = some (.bool (!isSrt0 st)) ∧ eEq w (.str "sort") = some (.bool (isSrt0 st)) := by
  have no : ∀ w ∈ (["where", "stable", "first", "skip", "columns"] : List Str), decide (w = Str.ofString "sort") = false := by decide +kernel
  have key : ∀ (w : Str) (b : Bool), decide (w = Str.ofString "sort") = b → eNe2 (.str w) (.str "sort") = some (.bool (!b)) ∧ eEq (.str w) (.str "sort") = some (.bool b) := fun w b h => ⟨by rw [ne2_str, h], by rw [Pu.eq_str]; show some (PyData.bool (decide (w = Str.ofString "sort"))) = _; rw [h]⟩
  cases st with
  | whr c v => exact ⟨_, _, rfl, key _ _ (no "where" (by decide +kernel))⟩
  | srt b p => cases b with
    | true => exact ⟨_, _, rfl, key _ _ (no "stable" (by decide +kernel))⟩
    | false => exact ⟨_, _, rfl, key _ _ (decide_eq_true rfl)⟩
  | cut b i => cases b with
    | true => exact ⟨_, _, rfl, key _ _ (no "first" (by decide +kernel))⟩
    | false => exact ⟨_, _, rfl, key _ _ (no "skip" (by decide +kernel))⟩
  | col l => exact ⟨_, _, rfl, key _ _ (no "columns" (by decide +kernel))⟩
  | grp w r => cases ng
end
section
variable {n : Nat} {Q : PyData → Nat → Prop} {K : Str} {v : PyData}
theorem is_plain_run (q : Q (.bool (isPl v)) n) : MD w_is_plain_integer [.d v] n Q := by
  refine md_def rfl rfl ?_
  unfold t_is_plain_integer
  cases v with
  | int i =>
    walk_at "s"; walk_at "s"; walk_at "s"; walk_at "s"; walk_at "r"; walk_at "r"; walk_at "t"
    walk_at "s"; walk_at "s"; walk_at "s"; walk_at "r"; walk_at "r"
    exact q
  | bool i =>
    walk_at "s"; walk_at "s"; walk_at "s"; walk_at "s"; walk_at "r"; walk_at "r"; walk_at "t"
    walk_at "s"; walk_at "s"; walk_at "s"; walk_at "r"; walk_at "r"
    exact q
  | _ =>
    walk_at "s"; walk_at "s"; walk_at "s"; walk_at "s"; walk_at "r"; walk_at "r"; walk_at "f"
    exact q
end
theorem any_map {α : Type} (f : α → Bool) (xs : List α) : eAny (.list (xs.map fun x => .bool (f x))) = some (.bool (xs.any f)) := by
  show (boolsOf (xs.map fun x => PyData.bool (f x))).map _ = _
  rw [bools_map]
  simp
section
variable {n : Nat} {Q : PyData → Nat → Prop} {K : List Nat} {rules : List Rule} {keys : List (List Nat)}
theorem ix_lastL {xs : List PyData} (h : xs ≠ []) : eIx (.list xs) (.int (-1)) = some (xs.getLast h) := by
  have hp := List.length_pos_iff.mpr h
  show atI xs (-1) = _
  unfold atI ixN
  rw [if_neg (by decide), if_pos (by omega)]
  show xs[((-1 : Int) + (xs.length : Int)).toNat]? = _
  rw [show ((-1 : Int) + (xs.length : Int)).toNat = xs.length - 1 by omega, List.getLast_eq_getElem]
  exact List.getElem?_eq_getElem _
theorem ix_lastT {xs : List PyData} (h : xs ≠ []) : eIx (.tuple xs) (.int (-1)) = some (xs.getLast h) := ix_lastL h
theorem keptA {st : Stp} (so : StpOk K st) : ∃ a r, stpD st = .tuple (.str a :: r) ∧ ((isS "columns" (.str a) = true ∧ r = [.str (tx (keptL K st))]) ∨ (isS "columns" (.str a) = false ∧ keptL K st = K)) := by
  cases st with
  | whr c v => exact ⟨_, _, rfl, .inr ⟨by decide +kernel, rfl⟩⟩
  | srt b p => cases b <;> exact ⟨_, _, rfl, .inr ⟨by decide +kernel, rfl⟩⟩
  | cut b i => cases b <;> exact ⟨_, _, rfl, .inr ⟨by decide +kernel, rfl⟩⟩
  | col l => exact ⟨_, _, rfl, .inl ⟨by decide +kernel, rfl⟩⟩
  | grp w r => exact ⟨_, _, rfl, .inr ⟨by rcases so with rfl | rfl | rfl <;> decide +kernel, rfl⟩⟩
theorem kept_after_run {st : Stp} {K0 : List Nat} (so : StpOk K0 st) (q : Q (.str (tx (keptL K st))) n) : MD w_kept_after [.d (.str (tx K)), .d (stpD st)] n Q := by
  obtain ⟨a, r, e, h⟩ := keptA (K := K0) so
  have hk : keptL K0 st = K0 → keptL K st = K ∨ ∃ l, st = .col l := fun _ => by cases st <;> first | exact .inl rfl | exact .inr ⟨_, rfl⟩
  refine md_def rfl rfl ?_
  unfold t_kept_after
  rw [e]
  (repeat walk_at "s"); walk_at "e"
  (repeat walk_at "s"); walk_at "e"
  rcases h with ⟨h1, h2⟩ | ⟨h1, h2⟩
  · rw [h1]
    walk_at "r"
    walk_at "t"
    have e3 : keptL K0 st = keptL K st := by
      cases st with
      | col l => rfl
      | whr c v => exfalso; cases e; revert h1; decide +kernel
      | srt b p => exfalso; cases b <;> (cases e; revert h1; decide +kernel)
      | cut b p => exfalso; cases b <;> (cases e; revert h1; decide +kernel)
      | grp w r =>
        exfalso
        cases e
        rcases so with rfl | rfl | rfl <;> (revert h1; decide +kernel)
    subst h2
    rw [← e3] at q
    (repeat walk_at "s")
    exact ⟨_, ix_t1 _ _ _, q⟩
  · rw [h1]
    walk_at "r"
    walk_at "f"
    (repeat walk_at "s")
    have e3 : keptL K st = K := by
      cases st with
      | col l => exfalso; cases e; revert h1; decide +kernel
      | _ => rfl
    rw [e3] at q
    exact q
theorem law_kept_run {sts : List Stp} (hs : ∀ st ∈ sts, StpOk K st) (q : Q (.str (tx (keptR K sts))) n) : MD w__law_kept [.d (schD K rules keys), .d (.tuple (sts.map stpD))] n Q := by
  refine md_def rfl rfl ?_
  unfold t__law_kept
  walk_at "s"
  (repeat walk_at "s")
  refine ⟨_, ix_t0 _ _, ?_⟩
  walk_at "s"
  refine n_for ?_
  (repeat walk_at "s")
  refine ⟨_, rfl, fun rest e m => m = n ∧ ∃ (l : List Nat) (post : List Stp) (x3 : Option Sl), rest = post.map stpD ∧ (∀ st ∈ post, StpOk K st) ∧ keptR l post = keptR K sts ∧ e = [some (.d (schD K rules keys)), some (.d (.tuple (sts.map stpD))), some (.d (.str (tx l))), x3],
    ⟨rfl, K, sts, none, rfl, hs, rfl, rfl⟩, fun x rest e m hI => ?_, fun e m hI => ?_⟩
  · obtain ⟨rfl, l, post, x3, er, hp, ek, rfl⟩ := hI
    cases post with
    | nil => cases er
    | cons st post =>
    rw [List.map_cons] at er
    obtain ⟨rfl, rfl⟩ := List.cons.inj er
    have so := hp st List.mem_cons_self
    refine ⟨_, rfl, ?_⟩
    walk_at "s"
    have go : ∀ {Q' : PyData → Nat → Prop}, Q' (.str (tx (keptL l st))) m → ME (wIfE (wTt (wOp pEq2 (wOp pIx (wVar 3) (wC (.int 0))) (wC (.str "columns")))) (wOp pIx (wVar 3) (wC (.int 1))) (wVal 2)) [some (.d (schD K rules keys)), some (.d (.tuple (sts.map stpD))), some (.d (.str (tx l))), some (.d (stpD st))] m Q' := by
      intro Q' q'
      walk_at "s"; walk_at "s"; walk_at "s"; walk_at "s"; walk_at "s"; walk_at "s"
      cases st with
      | col p =>
        walk_at "e"
        (repeat walk_at "s"); walk_at "e"
        walk_at "r"
        walk_at "t"
        (repeat walk_at "s")
        exact ⟨_, ix_t1 _ _ _, q'⟩
      | srt b p => cases b <;> (walk_at "e"; (repeat walk_at "s"); walk_at "e"; walk_at "r"; walk_at "f"; (repeat walk_at "s"); exact q')
      | cut b p => cases b <;> (walk_at "e"; (repeat walk_at "s"); walk_at "e"; walk_at "r"; walk_at "f"; (repeat walk_at "s"); exact q')
      | whr c v => walk_at "e"; (repeat walk_at "s"); walk_at "e"; walk_at "r"; walk_at "f"; (repeat walk_at "s"); exact q'
      | grp w r =>
        refine ⟨_, ix_t0 _ _, ?_⟩
        (repeat walk_at "s"); walk_at "e"
        rw [show isS "columns" (.str w) = false by rcases so with rfl | rfl | rfl <;> decide +kernel]
        walk_at "r"; walk_at "f"; (repeat walk_at "s"); exact q'
    refine go ?_
    exact ⟨rfl, keptL l st, post, _, rfl, fun s h => hp s (List.mem_cons_of_mem _ h), ek, rfl⟩
  · obtain ⟨rfl, l, post, x3, er, hp, ek, rfl⟩ := hI
    have e0 : post = [] := by cases post with | nil => rfl | cons c r => cases er
    subst e0
    (repeat walk_at "s")
    rw [← ek] at q
    exact q
end
section
variable {n : Nat} {Q : PyData → Nat → Prop} {K l : List Nat} {rules : List Rule} {keys : List (List Nat)} {G : List Row}
theorem prj_len (P : List Nat) (g : Row) : (prj K P g).length = P.length := List.length_map _
theorem prj_prj {part : List Nat} (h : ∀ c ∈ part, c ∈ l) (g : Row) : prj l part (prj K l g) = prj K part g := List.map_congr_left fun c hc => by
  have hi : l.idxOf c < l.length := List.idxOf_lt_length_iff.mpr (h c hc)
  show (l.map fun c => g.getD (K.idxOf c) 0).getD (l.idxOf c) 0 = g.getD (K.idxOf c) 0
  rw [List.getD_eq_getElem?_getD, List.getElem?_map, List.getElem?_eq_getElem hi]
  show g.getD (K.idxOf (l[l.idxOf c])) 0 = _
  rw [List.getElem_idxOf hi]
theorem getD_ok {g : Row} (h : ∀ x ∈ g, okI x) (i : Nat) : okI (g.getD i 0) := by
  rw [List.getD_eq_getElem?_getD]
  cases e : g[i]? with
  | none => exact ⟨by decide, by decide⟩
  | some x => exact h x (List.mem_of_getElem? e)
theorem rows_prj (hG : RowsOk K G) : RowsOk l (G.map (prj K l)) := ⟨fun r hr => by
  obtain ⟨g, _, rfl⟩ := List.mem_map.mp hr
  exact prj_len l g, fun r hr x hx => by
  obtain ⟨g, hg, rfl⟩ := List.mem_map.mp hr
  obtain ⟨c, _, rfl⟩ := List.mem_map.mp hx
  exact getD_ok (hG.small g hg) _⟩
theorem srt_ints {o : List Nat} {c : Nat} (h : o.Perm (List.range c)) : srt (o.map fun (k : Nat) => PyData.int (k : Int)) = (List.range c).map fun (k : Nat) => PyData.int (k : Int) := by
  unfold srt
  have e : (o.map fun (k : Nat) => PyData.int (k : Int)).mergeSort (W.dataLe false id) = (o.mergeSort fun a b => decide (a ≤ b)).map fun (k : Nat) => PyData.int (k : Int) := by
    refine (List.map_mergeSort fun a _ b _ => ?_).symm
    show decide (a ≤ b) = !W.dataLt (.int (b : Int)) (.int (a : Int))
    rw [W.dataLt_int]
    by_cases h : a ≤ b
    · rw [decide_eq_true h, decide_eq_false (by omega)]; rfl
    · rw [decide_eq_false h, decide_eq_true (by omega)]; rfl
  rw [e]
  have a1 : (o.mergeSort fun a b => decide (a ≤ b)).Pairwise (· ≤ ·) := (List.pairwise_mergeSort (le := fun a b : Nat => decide (a ≤ b)) (fun a b c h1 h2 => decide_eq_true (Nat.le_trans (of_decide_eq_true h1) (of_decide_eq_true h2))) (fun a b => by rcases Nat.le_total a b with z | z <;> simp [z]) o).imp fun {a b} z => of_decide_eq_true z
  have a2 : (List.range c).Pairwise (· ≤ ·) := List.pairwise_lt_range.imp fun h => Nat.le_of_lt h
  rw [((List.mergeSort_perm o _).trans h).eq_of_pairwise (fun a b _ _ x y => Nat.le_antisymm x y) a1 a2]
theorem rng_nat (c : Nat) : rngD 0 c = (List.range c).map fun (k : Nat) => PyData.int (k : Int) := by
  unfold rngD
  exact List.map_congr_left fun k _ => by rw [Int.zero_add]
theorem ints_alike (o : List Nat) : W.AllAlike (o.map fun (k : Nat) => PyData.int (k : Int)) ∧ W.Sortable (o.map fun (k : Nat) => PyData.int (k : Int)) := by
  refine ⟨fun d hd d' hd' => ?_, .inr fun d hd => ?_⟩
  · obtain ⟨x, _, rfl⟩ := List.mem_map.mp hd
    obtain ⟨y, _, rfl⟩ := List.mem_map.mp hd'
    rfl
  · obtain ⟨x, _, rfl⟩ := List.mem_map.mp hd
    exact ⟨fun z => (nomatch z), fun _ z => (nomatch z)⟩
theorem is_perm_yes {o : List Nat} {c : Nat} (h : o.Perm (List.range c)) (hc : c ≤ 100) (q : Q (.bool true) n) : MD w_is_permutation [.d (.int (c : Nat)), .d (ordD o)] n Q := by
  have lo : o.length = c := by rw [h.length_eq, List.length_range]
  refine md_def rfl rfl ?_
  unfold t_is_permutation
  (repeat walk_at "s"); walk_at "r"; walk_at "r"; walk_at "f"
  (repeat walk_at "s")
  refine ⟨_, rfl, ?_⟩
  (repeat walk_at "s")
  refine ⟨_, ne2_int _ _, ?_⟩
  rw [decide_eq_true (show (((o.map fun (k : Nat) => PyData.int (k : Int)).length : Nat) : Int) = (c : Int) by rw [List.length_map, lo])]
  walk_at "r"
  walk_at "f"
  (repeat walk_at "s")
  refine m_lcM o (fun (k : Nat) => .int (k : Int)) (fun _ => .bool true) ?_
  (repeat walk_at "s")
  refine ⟨_, rfl, rfl, by rw [sizeLine_eq]; omega, fun k hk => ⟨_, rfl, fun m => ?_⟩, _, all_map (fun _ => true) o, ?_⟩
  · (repeat walk_at "s")
    exact is_plain_run ⟨rfl, rfl⟩
  rw [show (o.all fun _ => true) = true from List.all_eq_true.mpr fun _ _ => rfl]
  walk_at "r"
  walk_at "t"
  (repeat walk_at "s")
  refine ⟨o.map fun (k : Nat) => PyData.int (k : Int), rfl, (ints_alike o).1, (ints_alike o).2, by rw [List.length_map]; omega, fun d hd => ?_, ?_⟩
  · obtain ⟨k, _, rfl⟩ := List.mem_map.mp hd
    simp [PyData.depth]
  rw [srt_ints h]
  (repeat walk_at "s")
  refine m_listR ?_
  (repeat walk_at "s")
  refine ⟨c, rfl, by omega, ?_⟩
  rw [rng_nat]
  have e : (List.range c).map (fun (k : Nat) => PyData.int (k : Int)) = ((List.range c).map fun (k : Nat) => (k : Int)).map .int := by rw [List.map_map]; rfl
  rw [e]
  refine ⟨_, eq_liD _ _, ?_⟩
  rw [decide_eq_true rfl]
  exact q
theorem permuted_run {o : List Nat} (h : o.Perm (List.range G.length)) (few : G.length ≤ 100) (q : Q (.list ((pick G o).map tI)) n) : MD w__permuted [.d (.list (G.map tI)), .d (ordD o)] n Q := by
  have lo : o.length = G.length := by rw [h.length_eq, List.length_range]
  refine md_def rfl rfl ?_
  unfold t__permuted
  (repeat walk_at "s")
  refine ⟨.int (G.length : Nat), by show some (PyData.int ((G.map tI).length : Nat)) = _; rw [List.length_map], ?_⟩
  (repeat walk_at "s")
  refine is_perm_yes h few ?_
  walk_at "r"
  walk_at "f"
  walk_at "s"
  (repeat walk_at "s")
  refine m_lcM o (fun (k : Nat) => .int (k : Int)) (fun k => tI (G.getD k [])) ?_
  (repeat walk_at "s")
  refine ⟨_, rfl, rfl, by rw [sizeLine_eq]; omega, fun k hk => ⟨_, rfl, fun m => ?_⟩, ?_⟩
  · have hk : k < G.length := List.mem_range.mp (h.mem_iff.mp hk)
    (repeat walk_at "s")
    refine ⟨_, ix_nat (by rw [List.length_map]; exact hk), ?_, rfl⟩
    rw [List.getElem_map, List.getD_eq_getElem?_getD, List.getElem?_eq_getElem hk]
    rfl
  have e0 : o.map (fun k => tI (G.getD k [])) = (pick G o).map tI := by unfold pick; rw [List.map_map]; rfl
  rw [e0]
  exact q
theorem lay_ti (V : List Row) : SeqAt.shaped (.list (V.map tI)) = true := by
  have a : ∀ ns : List Int, PyData.canLayAll0 (ns.map PyData.int) = true := fun ns => by
    induction ns with
    | nil => rfl
    | cons x r ih => simp [PyData.canLayAll0, PyData.canLay0, ih]
  have b : PyData.canLayAll0 (V.map tI) = true := by
    induction V with
    | nil => rfl
    | cons g r ih =>
      show (PyData.canLay0 (tI g) && PyData.canLayAll0 (r.map tI)) = true
      rw [ih, show PyData.canLay0 (tI g) = PyData.canLayAll0 (g.map PyData.int) from by rw [tI, PyData.canLay0], a g]
      rfl
  have d : PyData.depthAll (V.map tI) ≤ 1 := by
    induction V with
    | nil => exact Nat.zero_le _
    | cons g r ih =>
      have := depth_ti g
      simp only [List.map_cons, PyData.depthAll]
      have := ih (by
        simp only [List.map_cons, PyData.canLayAll0, Bool.and_eq_true] at b
        exact b.2)
      omega
  unfold SeqAt.shaped
  rw [show PyData.canLay0 (.list (V.map tI)) = PyData.canLayAll0 (V.map tI) from by rw [PyData.canLay0], b, Bool.true_and]
  refine decide_eq_true ?_
  rw [PyData.depth]
  omega
theorem ne_ti (V : List Row) : eNe2 (.list (V.map tI)) (.list (V.map tI)) = some (.bool false) := by
  have s := lay_ti V
  show (if SeqAt.shaped (.list (V.map tI)) && SeqAt.shaped (.list (V.map tI)) then some (PyData.bool (!PyData.eqv (.list (V.map tI)) (.list (V.map tI)))) else none) = _
  rw [s, if_pos (by rfl), eqv_refl _ (SeqAt.canLay_of_shaped s)]
  rfl
theorem srt_ti {V : List Row} (h : V.Pairwise fun a b => ll a b = true) : srt (V.map tI) = V.map tI := by
  unfold srt
  have e : (V.map tI).mergeSort (W.dataLe false id) = (V.mergeSort ll).map tI := by
    refine (List.map_mergeSort fun a _ b _ => ?_).symm
    exact (congrFun (congrFun (le_ti (id : Row → Row)) a) b).symm
  rw [e, List.mergeSort_of_pairwise h]
theorem sorted_by_run {o : List Nat} {p : List Nat} (hl : ColsOk l) (hG : RowsOk l G) (few : G.length ≤ 100) (hp : ∀ c ∈ p, c ∈ l) (nd : p.Nodup) (pne : p ≠ []) (h : o.Perm (List.range G.length)) (asc : AscB (prj l p) (pick G o)) (q : Q (.list ((pick G o).map tI)) n) :
    MD w__sorted_by_script [.d (.str (tx l)), .d (.list (G.map tI)), .d (.str (tx p)), .d (ordD o)] n Q := by
  have h5 := hl.few
  have lp := nodup_len nd hp
  have pp := pick_perm h
  refine md_def rfl rfl ?_
  unfold t__sorted_by_script
  (repeat walk_at "s")
  refine permuted_run h few ?_
  (repeat walk_at "s")
  refine projected_run hl (hG.perm pp).len hp (by omega) (by rw [pp.length_eq]; omega) ?_
  have asc2 : ((pick G o).map (prj l p)).Pairwise fun a b => ll a b = true := List.pairwise_map.mpr asc
  have ne : ∀ b ∈ (pick G o).map (prj l p), b ≠ [] := fun b hb e => by
    obtain ⟨g, _, rfl⟩ := List.mem_map.mp hb
    exact pne (List.map_eq_nil_iff.mp e)
  have lv : ((pick G o).map (prj l p)).length ≤ 100 := by rw [List.length_map, pp.length_eq]; exact few
  generalize (pick G o).map (prj l p) = V at asc2 ne lv
  walk_at "s"
  (repeat walk_at "s")
  refine ⟨V.map tI, rfl, alike_ti (id : Row → Row) V, sortable_ti (id : Row → Row) V ne, by rw [List.length_map]; omega, fun d hd => ?_, ?_⟩
  · obtain ⟨g, _, rfl⟩ := List.mem_map.mp hd
    have := depth_ti g
    omega
  rw [srt_ti asc2]
  refine ⟨_, ne_ti V, ?_⟩
  walk_at "r"
  walk_at "f"
  walk_at "s"
  (repeat walk_at "s")
  exact q
end
section
variable {n : Nat} {Q : PyData → Nat → Prop} {K l : List Nat} {rules : List Rule} {keys : List (List Nat)} {G : List Row}
theorem rngV {V : List Row} (f : Row → List Int) : (List.range V.length).map (fun k => f (V.getD k [])) = V.map f := by
  refine List.ext_getElem (by simp) fun i h1 h2 => ?_
  have hi : i < V.length := by simpa using h1
  rw [List.getElem_map, List.getElem_map, List.getElem_range, List.getD_eq_getElem?_getD, List.getElem?_eq_getElem hi]
  rfl
/-- the order that sorts rows by f, equal ones as they stand -/
def stO (f : Row → List Int) (G : List Row) : List Nat := (List.range G.length).mergeSort (leB fun k => f (G.getD k []))
theorem stO_perm (f : Row → List Int) (G : List Row) : (stO f G).Perm (List.range G.length) := List.mergeSort_perm _ _
theorem pick_stO (f : Row → List Int) (G : List Row) : pick G (stO f G) = G.mergeSort (leB f) := by
  have e1 : (List.range G.length).map (fun k => G.getD k []) = G := by
    have := rngV (V := G) id
    simpa using this
  unfold pick stO
  rw [List.map_mergeSort (s := leB f) (f := fun k => G.getD k []) (fun a _ b _ => rfl), e1]
theorem stO_map {f f' h : Row → List Int} (e : ∀ r ∈ G, f' (h r) = f r) : stO f' (G.map h) = stO f G := by
  unfold stO
  rw [List.length_map]
  have key : ∀ k ∈ List.range G.length, f' ((G.map h).getD k []) = f (G.getD k []) := fun k hk => by
    have hk : k < G.length := List.mem_range.mp hk
    rw [List.getD_eq_getElem?_getD, List.getD_eq_getElem?_getD, List.getElem?_map, List.getElem?_eq_getElem hk]
    exact e _ (List.getElem_mem hk)
  have := List.map_mergeSort (r := leB fun k => f' ((G.map h).getD k [])) (s := leB fun k => f (G.getD k [])) (f := id) (l := List.range G.length) (fun a ha b hb => by
    show ll (f' ((G.map h).getD a [])) (f' ((G.map h).getD b [])) = ll (f (G.getD a [])) (f (G.getD b []))
    rw [key a ha, key b hb])
  rwa [List.map_id, List.map_id] at this
theorem stable_run {p : List Nat} (hl : ColsOk l) (hG : RowsOk l G) (few : G.length ≤ 100) (hp : ∀ c ∈ p, c ∈ l) (nd : p.Nodup) (pne : p ≠ [])
    (q : Q (ordD (stO (prj l p) G)) n) : MD w_stable_permutation [.d (.str (tx l)), .d (.list (G.map tI)), .d (.str (tx p))] n Q := by
  have h5 := hl.few
  have lp := nodup_len nd hp
  refine md_def rfl rfl ?_
  unfold t_stable_permutation
  (repeat walk_at "s")
  refine projected_run hl hG.len hp (by omega) (by omega) ?_
  walk_at "s"
  walk_at "s"
  refine m_sortK (m_colR ?_)
  (repeat walk_at "s")
  refine ⟨.int (G.length : Nat), by show some (PyData.int ((G.map tI).length : Nat)) = _; rw [List.length_map], ?_⟩
  refine ⟨G.length, rfl, by omega, by rw [rng_len]; omega, fun d => tI (prj l p (G.getD (intOf d).toNat [])), ?_⟩
  rw [rng_nat]
  have em : ((List.range G.length).map fun (k : Nat) => PyData.int (k : Int)).map (fun d => tI (prj l p (G.getD (intOf d).toNat []))) = (List.range G.length).map fun k => tI (prj l p (G.getD k [])) := by
    rw [List.map_map]
    exact List.map_congr_left fun k _ => by
      show tI (prj l p (G.getD ((k : Int)).toNat [])) = _
      rw [Int.toNat_natCast]
  rw [em]
  refine ⟨alike_ti _ _, sortable_ti _ _ fun b hb e => pne (List.map_eq_nil_iff.mp e), fun d hd => ?_, fun x hx m' => ?_, ?_⟩
  · have := depth_ti (prj l p (G.getD (intOf d).toNat []))
    show (tI (prj l p (G.getD (intOf d).toNat []))).depth ≤ 40
    omega
  · obtain ⟨k, hk, rfl⟩ := List.mem_map.mp hx
    have hk : k < G.length := List.mem_range.mp hk
    have gk : G.getD k [] = G[k] := by rw [List.getD_eq_getElem?_getD, List.getElem?_eq_getElem hk]; rfl
    (repeat walk_at "s")
    refine ⟨_, ix_nat (by rw [List.length_map, List.length_map]; exact hk), ?_, rfl⟩
    show _ = tI (prj l p (G.getD ((k : Int)).toNat []))
    rw [List.getElem_map, List.getElem_map, Int.toNat_natCast, gk]
  · have es : ((List.range G.length).map fun (k : Nat) => PyData.int (k : Int)).mergeSort (W.dataLe false fun d => tI (prj l p (G.getD (intOf d).toNat []))) = ((List.range G.length).mergeSort (leB fun k => prj l p (G.getD k []))).map fun (k : Nat) => PyData.int (k : Int) := by
      refine (List.map_mergeSort fun x _ y _ => ?_).symm
      rw [le_ti fun d => prj l p (G.getD (intOf d).toNat [])]
      show ll (prj l p (G.getD x [])) (prj l p (G.getD y [])) = ll (prj l p (G.getD ((x : Int)).toNat [])) (prj l p (G.getD ((y : Int)).toNat []))
      rw [Int.toNat_natCast, Int.toNat_natCast]
    rw [es]
    exact q
/-- rows behind a step, equal ones as they stood -/
def oneM (K : List Nat) : Stp → List Row → List Row
  | .srt _ p, G => G.mergeSort (leB (prj K p))
  | s, G => oneS K s G
theorem oneM_eq {s : Stp} (h : isSrt0 s = false) : oneM K s G = oneS K s G := by
  cases s with
  | srt b p => cases b with
    | true => rfl
    | false => cases h
  | _ => rfl
theorem rows_after_run {st : Stp} (hl : ColsOk l) (so : StpOk l st) (sm : StpSm st) (ng : isG st = false) (hG : RowsOk K G) (lK : ∀ c ∈ l, c ∈ K) (few : G.length ≤ 100) (q : Q (.list (((oneM K st G).map (prj K (keptL l st))).map tI)) n) :
    MD w_rows_after_v1 [.d (.str (tx l)), .d (.list ((G.map (prj K l)).map tI)), .d (stpD st)] n Q := by
  have h5 := hl.few
  have okl : RowsOk l (G.map (prj K l)) := rows_prj hG
  refine md_def rfl rfl ?_
  unfold t_rows_after_v1
  have inS : ∀ w : Str, eIn false (.str w) (.tuple [.str "sort", .str "stable"]) = some (.bool (isOf ["sort", "stable"] (.str w))) := fun w => by
    have := in_tup (neg := false) ["sort", "stable"] (.str w)
    rw [Bool.false_xor] at this
    exact this
  have s1 : isOf ["sort", "stable"] (.str "where") = false ∧ isOf ["sort", "stable"] (.str "first") = false ∧ isOf ["sort", "stable"] (.str "skip") = false ∧ isOf ["sort", "stable"] (.str "columns") = false ∧ isOf ["sort", "stable"] (.str "stable") = true ∧ isOf ["sort", "stable"] (.str "sort") = true := by decide +kernel
  cases st with
  | whr c v =>
    have hc : c ∈ l := so
    (repeat walk_at "s"); walk_at "e"
    (repeat walk_at "s")
    refine ⟨_, inS _, ?_⟩
    rw [s1.1]
    walk_at "r"
    walk_at "f"
    (repeat walk_at "s"); walk_at "e"
    walk_at "r"
    walk_at "t"
    (repeat walk_at "s")
    refine ⟨_, rfl, ?_⟩
    (repeat walk_at "s"); walk_at "e"
    refine ⟨_, index_sg (cols_nodup hl) hc, ?_⟩
    walk_at "s"
    walk_at "s"
    refine m_lcK (G.map (prj K l)) tI tI (fun r => decide (r.getD (l.idxOf c) 0 = v)) ?_
    (repeat walk_at "s")
    refine ⟨_, rfl, rfl, by rw [List.length_map, sizeLine_eq]; omega, fun r hr => ⟨_, rfl, fun m => ?_, fun m => ?_⟩, ?_⟩
    · (repeat walk_at "s")
      refine ⟨_, cell_ix hl (okl.len r hr) hc, ?_⟩
      (repeat walk_at "s"); walk_at "e"
      refine ⟨_, eq_int _ _, ?_⟩
      walk_at "r"
      exact ⟨rfl, rfl⟩
    · (repeat walk_at "s")
      exact ⟨rfl, rfl⟩
    · have e : (G.map (prj K l)).filter (fun r => decide (r.getD (l.idxOf c) 0 = v)) = (G.filter fun g => decide (prj K [c] g = [v])).map (prj K l) := by
        rw [List.filter_map]
        congr 1
        refine List.filter_congr fun g _ => ?_
        have := prj_prj (K := K) (l := l) (part := [c]) (fun d hd => by rw [List.mem_singleton.mp hd]; exact hc) g
        have e2 : (prj K l g).getD (l.idxOf c) 0 = g.getD (K.idxOf c) 0 := by
          have := List.cons.inj (show [(prj K l g).getD (l.idxOf c) 0] = [g.getD (K.idxOf c) 0] from this)
          exact this.1
        show decide ((prj K l g).getD (l.idxOf c) 0 = v) = decide ([g.getD (K.idxOf c) 0] = [v])
        rw [e2]
        simp
      rw [e]
      exact q
  | srt b p =>
    cases b with
    | true =>
      (repeat walk_at "s"); walk_at "e"
      (repeat walk_at "s")
      refine ⟨_, inS _, ?_⟩
      rw [s1.2.2.2.2.1]
      walk_at "r"
      walk_at "t"
      walk_at "s"; walk_at "s"
      -- the rows in their new order
      have rest : ∀ o : List Nat, (∀ k ∈ o, k < (G.map (prj K l)).length) → o.length = (G.map (prj K l)).length → pick (G.map (prj K l)) o = (G.map (prj K l)).mergeSort (leB (prj l p)) → ∀ m, m = n → o.map (fun k => tI ((G.map (prj K l)).getD k [])) = (((G.mergeSort (leB (prj K p))).map (prj K l)).map tI) := fun o h1 h2 h3 m hm => by
        have e1 : o.map (fun k => tI ((G.map (prj K l)).getD k [])) = (pick (G.map (prj K l)) o).map tI := by unfold pick; rw [List.map_map]; rfl
        rw [e1, h3]
        congr 1
        refine (List.map_mergeSort fun a _ b _ => ?_).symm
        show ll (prj K p a) (prj K p b) = ll (prj l p (prj K l a)) (prj l p (prj K l b))
        rw [prj_prj so.1, prj_prj so.1]
      refine m_lc ?_
      (repeat walk_at "s"); walk_at "e"
      (repeat walk_at "s")
      refine stable_run hl okl (by rw [List.length_map]; exact few) so.1 so.2 sm ?_
      have hpo := stO_perm (prj l p) (G.map (prj K l))
      have h3 := pick_stO (prj l p) (G.map (prj K l))
      generalize stO (prj l p) (G.map (prj K l)) = o at hpo h3
      have h1 : ∀ k ∈ o, k < (G.map (prj K l)).length := fun k hk => List.mem_range.mp (hpo.mem_iff.mp hk)
      have h2 : o.length = (G.map (prj K l)).length := by rw [hpo.length_eq, List.length_range]
      refine ⟨_, rfl, by rw [List.length_map, h2, List.length_map, sizeLine_eq]; omega, fun rest acc m => m = n ∧ ∃ pre post : List Nat, o = pre ++ post ∧ rest = post.map (fun (k : Nat) => .int (k : Int)) ∧ acc = pre.map fun k => tI ((G.map (prj K l)).getD k []), ⟨rfl, [], o, rfl, rfl, rfl⟩, fun x rest acc m hI => ?_, fun acc m hI => ?_⟩
      · obtain ⟨rfl, pre, post, e1, e2, e3⟩ := hI
        cases post with
        | nil => cases e2
        | cons k post =>
        rw [List.map_cons] at e2
        obtain ⟨rfl, rfl⟩ := List.cons.inj e2
        have hk := h1 k (by rw [e1]; simp)
        refine ⟨_, rfl, ?_⟩
        walk_at "s"
        refine ⟨fun _ => ?_, fun h => Bool.noConfusion h⟩
        (repeat walk_at "s")
        refine ⟨_, ix_nat (by rw [List.length_map]; exact hk), ?_⟩
        refine ⟨rfl, pre ++ [k], post, by rw [e1]; simp, rfl, ?_⟩
        rw [e3, List.map_append, List.getElem_map]
        congr 1
        show [tI (G.map (prj K l))[k]] = [tI ((G.map (prj K l)).getD k [])]
        rw [List.getD_eq_getElem?_getD, List.getElem?_eq_getElem hk]
        rfl
      · obtain ⟨rfl, pre, post, e1, e2, e3⟩ := hI
        have e0 : post = [] := by cases post with | nil => rfl | cons c r => cases e2
        subst e0
        rw [List.append_nil] at e1
        subst e1
        rw [e3, rest o h1 h2 h3 m rfl]
        exact q
    | false =>
      (repeat walk_at "s"); walk_at "e"
      (repeat walk_at "s")
      refine ⟨_, inS _, ?_⟩
      rw [s1.2.2.2.2.2]
      walk_at "r"
      walk_at "t"
      walk_at "s"; walk_at "s"
      -- the rows in their new order
      have rest : ∀ o : List Nat, (∀ k ∈ o, k < (G.map (prj K l)).length) → o.length = (G.map (prj K l)).length → pick (G.map (prj K l)) o = (G.map (prj K l)).mergeSort (leB (prj l p)) → ∀ m, m = n → o.map (fun k => tI ((G.map (prj K l)).getD k [])) = (((G.mergeSort (leB (prj K p))).map (prj K l)).map tI) := fun o h1 h2 h3 m hm => by
        have e1 : o.map (fun k => tI ((G.map (prj K l)).getD k [])) = (pick (G.map (prj K l)) o).map tI := by unfold pick; rw [List.map_map]; rfl
        rw [e1, h3]
        congr 1
        refine (List.map_mergeSort fun a _ b _ => ?_).symm
        show ll (prj K p a) (prj K p b) = ll (prj l p (prj K l a)) (prj l p (prj K l b))
        rw [prj_prj so.1, prj_prj so.1]
      refine m_lc ?_
      (repeat walk_at "s"); walk_at "e"
      (repeat walk_at "s")
      refine stable_run hl okl (by rw [List.length_map]; exact few) so.1 so.2 sm ?_
      have hpo := stO_perm (prj l p) (G.map (prj K l))
      have h3 := pick_stO (prj l p) (G.map (prj K l))
      generalize stO (prj l p) (G.map (prj K l)) = o at hpo h3
      have h1 : ∀ k ∈ o, k < (G.map (prj K l)).length := fun k hk => List.mem_range.mp (hpo.mem_iff.mp hk)
      have h2 : o.length = (G.map (prj K l)).length := by rw [hpo.length_eq, List.length_range]
      refine ⟨_, rfl, by rw [List.length_map, h2, List.length_map, sizeLine_eq]; omega, fun rest acc m => m = n ∧ ∃ pre post : List Nat, o = pre ++ post ∧ rest = post.map (fun (k : Nat) => .int (k : Int)) ∧ acc = pre.map fun k => tI ((G.map (prj K l)).getD k []), ⟨rfl, [], o, rfl, rfl, rfl⟩, fun x rest acc m hI => ?_, fun acc m hI => ?_⟩
      · obtain ⟨rfl, pre, post, e1, e2, e3⟩ := hI
        cases post with
        | nil => cases e2
        | cons k post =>
        rw [List.map_cons] at e2
        obtain ⟨rfl, rfl⟩ := List.cons.inj e2
        have hk := h1 k (by rw [e1]; simp)
        refine ⟨_, rfl, ?_⟩
        walk_at "s"
        refine ⟨fun _ => ?_, fun h => Bool.noConfusion h⟩
        (repeat walk_at "s")
        refine ⟨_, ix_nat (by rw [List.length_map]; exact hk), ?_⟩
        refine ⟨rfl, pre ++ [k], post, by rw [e1]; simp, rfl, ?_⟩
        rw [e3, List.map_append, List.getElem_map]
        congr 1
        show [tI (G.map (prj K l))[k]] = [tI ((G.map (prj K l)).getD k [])]
        rw [List.getD_eq_getElem?_getD, List.getElem?_eq_getElem hk]
        rfl
      · obtain ⟨rfl, pre, post, e1, e2, e3⟩ := hI
        have e0 : post = [] := by cases post with | nil => rfl | cons c r => cases e2
        subst e0
        rw [List.append_nil] at e1
        subst e1
        rw [e3, rest o h1 h2 h3 m rfl]
        exact q
  | cut b i =>
    cases b with
    | true =>
      (repeat walk_at "s"); walk_at "e"
      (repeat walk_at "s")
      refine ⟨_, inS _, ?_⟩
      rw [s1.2.1]
      walk_at "r"
      walk_at "f"
      (repeat walk_at "s"); walk_at "e"
      walk_at "r"
      walk_at "f"
      (repeat walk_at "s"); walk_at "e"
      walk_at "r"
      walk_at "t"
      (repeat walk_at "s"); walk_at "e"
      refine ⟨_, rfl, ?_⟩
      refine ⟨_, sl_take _ i, ?_⟩
      rw [← List.map_take]
      exact q
    | false =>
      (repeat walk_at "s"); walk_at "e"
      (repeat walk_at "s")
      refine ⟨_, inS _, ?_⟩
      rw [s1.2.2.1]
      walk_at "r"
      walk_at "f"
      (repeat walk_at "s"); walk_at "e"
      walk_at "r"
      walk_at "f"
      (repeat walk_at "s"); walk_at "e"
      walk_at "r"
      walk_at "f"
      (repeat walk_at "s"); walk_at "e"
      walk_at "r"
      walk_at "t"
      (repeat walk_at "s"); walk_at "e"
      refine ⟨_, rfl, ?_⟩
      (repeat walk_at "s")
      refine ⟨_, sl_drop _ i, ?_⟩
      rw [← List.map_drop]
      exact q
  | col part =>
    have sub : part.Sublist l := so
    have lp := sub.length_le
    (repeat walk_at "s"); walk_at "e"
    (repeat walk_at "s")
    refine ⟨_, inS _, ?_⟩
    rw [s1.2.2.2.1]
    walk_at "r"
    walk_at "f"
    (repeat walk_at "s"); walk_at "e"
    walk_at "r"
    walk_at "f"
    (repeat walk_at "s"); walk_at "e"
    walk_at "r"
    walk_at "f"
    (repeat walk_at "s"); walk_at "e"
    walk_at "r"
    walk_at "f"
    (repeat walk_at "s"); walk_at "e"
    walk_at "r"
    walk_at "t"
    (repeat walk_at "s"); walk_at "e"
    (repeat walk_at "s")
    refine projected_run hl okl.len (fun c hc => sub.subset hc) (by omega) (by rw [List.length_map]; omega) ?_
    have e : (G.map (prj K l)).map (prj l part) = G.map (prj K part) := by
      rw [List.map_map]
      exact List.map_congr_left fun g _ => prj_prj (fun c hc => sub.subset hc) g
    rw [e]
    exact q
  | grp w r => cases ng
end
section
variable {n : Nat} {Q : PyData → Nat → Prop} {K l : List Nat} {rules : List Rule} {keys : List (List Nat)} {G : List Row}
theorem ix_atO {xs : List PyData} {j : Nat} {v : PyData} (h : xs[j]? = some v) : eIx (.list xs) (.int (j : Int)) = some v := atI_nat h
theorem sm_kept {st : Stp} (hK : ColsOk K) (so : StpOk K st) (sm : StpSm st) : ColsOk (keptL K st) ∧ (keptL K st).Sublist K := by
  cases st with
  | col l => exact ⟨sub_cols hK so sm, so⟩
  | _ => exact ⟨hK, List.Sublist.refl _⟩
theorem chn_all : ∀ {sts : List Stp} {K : List Nat}, Chn K sts → ColsOk K → (∀ st ∈ sts, StpOk K st ∧ StpSm st ∧ isG st = false) ∧ ColsOk (keptR K sts) ∧ (keptR K sts).Sublist K
  | [], _, _, hK => ⟨fun _ h => (nomatch h), hK, List.Sublist.refl _⟩
  | s :: r, K, ⟨h1, h2, h3, h4⟩, hK => by
    obtain ⟨k1, k2⟩ := sm_kept hK h1 h2
    obtain ⟨a, b, c⟩ := chn_all h4 k1
    refine ⟨fun st hst => ?_, b, c.trans k2⟩
    rcases List.mem_cons.mp hst with rfl | hst
    · exact ⟨h1, h2, h3⟩
    · exact ⟨(a st hst).1.mono k2, (a st hst).2⟩
theorem prj_self (nd : K.Nodup) {g : Row} (h : g.length = K.length) : prj K K g = g := by
  refine List.ext_getElem (by rw [prj_len, h]) fun i h1 h2 => ?_
  have hi : i < K.length := by omega
  have e : ∀ (m : List Int) (h : i < m.length), m = K.map (fun c => g.getD (K.idxOf c) 0) → m[i] = g[i] := fun m h em => by
    subst em
    rw [List.getElem_map, nd.idxOf_getElem i hi, List.getD_eq_getElem?_getD, List.getElem?_eq_getElem h2]
    rfl
  exact e _ h1 rfl
theorem map_self (nd : K.Nodup) (hG : RowsOk K G) : G.map (prj K K) = G := by
  have : G.map (prj K K) = G.map id := List.map_congr_left fun g hg => prj_self nd (hG.len g hg)
  rw [this, List.map_id]
theorem pick_map {f : Row → Row} {o : List Nat} (h : ∀ k ∈ o, k < G.length) : pick (G.map f) o = (pick G o).map f := by
  unfold pick
  rw [List.map_map]
  refine List.map_congr_left fun k hk => ?_
  show (G.map f).getD k [] = f (G.getD k [])
  rw [List.getD_eq_getElem?_getD, List.getD_eq_getElem?_getD, List.getElem?_map, List.getElem?_eq_getElem (h k hk)]
  rfl
theorem way_sorts : ∀ {sts : List Stp} {G G' : List Row} {os : List (List Nat)}, Way K sts G os G' → ((os.length : Nat) : Int) = (((sts.filter isSrt0).map stpD).length : Nat) := fun h => by rw [way_len h, List.length_map]
end
def keysS (K g : List Nat) (G : List Row) : List (List Int) := (keysOf (G.map (prj K g))).mergeSort ll
def grpR (K g : List Nat) (G : List Row) (v : List Int) : List Row := G.filter fun r => decide (prj K g r = v)
/-- the outcome, all columns of the rows at the end known -/
def endO (K l : List Nat) : Fin → List Row → List Row
  | .non, G => G.map (prj K l)
  | .cnt g, G => (keysS K g G).map fun v => v ++ [((grpR K g G v).length : Int)]
  | .sum g c, G => (keysS K g G).map fun v => v ++ [((grpR K g G v).map fun r => r.getD (K.idxOf c) 0).sum]
  | .hds g, G => (keysS K g G).map fun v => prj K l ((grpR K g G v).headD [])
section
variable {n : Nat} {Q : PyData → Nat → Prop} {K l g : List Nat} {G : List Row} {v : List Int}
theorem keysS_mem : v ∈ keysS K g G ↔ v ∈ G.map (prj K g) := by
  unfold keysS
  rw [List.mem_mergeSort, keysOf_mem]
theorem grpR_ne (h : v ∈ keysS K g G) : grpR K g G v ≠ [] := fun e => by
  obtain ⟨r, hr, rfl⟩ := List.mem_map.mp (keysS_mem.mp h)
  have : r ∈ grpR K g G (prj K g r) := List.mem_filter.mpr ⟨hr, decide_eq_true rfl⟩
  rw [e] at this
  cases this
theorem grpR_mem {r : Row} (h : r ∈ grpR K g G v) : r ∈ G ∧ prj K g r = v := ⟨(List.mem_filter.mp h).1, of_decide_eq_true (List.mem_filter.mp h).2⟩
theorem grpR_len : (grpR K g G v).length ≤ G.length := List.length_filter_le _ _
theorem keysOf_len (l : List (List Int)) : (keysOf l).length ≤ l.length := by
  induction l using snoc_ind with
  | h0 => exact Nat.le_refl _
  | h1 l a ih =>
    rw [keysOf_snoc]
    split
    · rw [List.length_append]; omega
    · rw [List.length_append, List.length_append]; simp; exact ih
theorem keysS_len : (keysS K g G).length ≤ G.length := by
  unfold keysS
  rw [List.length_mergeSort]
  have := keysOf_len (G.map (prj K g))
  rwa [List.length_map] at this
theorem end_len {f : Fin} : (endO K l f G).length ≤ G.length := by
  cases f <;> (unfold endO; rw [List.length_map]) <;> first | exact Nat.le_refl _ | exact keysS_len
theorem srt_keys : srt ((keysOf (G.map (prj K g))).map tI) = (keysS K g G).map tI := by
  unfold srt keysS
  refine (List.map_mergeSort fun a _ b _ => ?_).symm
  exact (congrFun (congrFun (le_ti (id : Row → Row)) a) b).symm
theorem zip_rows (G : List Row) (f h : Row → Row) : zipD ((G.map f).map tI) ((G.map h).map tI) = (G.map fun r => (f r, tI (h r))).map gD := by
  induction G with
  | nil => rfl
  | cons a r ih => exact congrArg (_ :: ·) ih
theorem rows_at (G : List Row) (f h : Row → Row) (v : List Int) : rowsAt (G.map fun r => (f r, tI (h r))) v = ((G.filter fun r => decide (f r = v)).map h).map tI := by
  unfold rowsAt
  rw [List.filter_map, List.map_map, List.map_map]
  rfl
theorem row_cnt {m : Nat} (few : G.length ≤ 1000) (lv : v.length ≤ 1000) : MD w__group_row [.d (.str (tx l)), .d (.tuple [.str "count", .str (tx g)]), .d (tI v), .d (.list ((G.map (prj K l)).map tI))] m fun z m' => z = tI (v ++ [(G.length : Int)]) ∧ m' = m := by
  refine md_def rfl rfl ?_
  unfold t__group_row
  (repeat walk_at "s"); walk_at "e"
  (repeat walk_at "s"); walk_at "e"
  walk_at "r"
  walk_at "f"
  (repeat walk_at "s"); walk_at "e"
  (repeat walk_at "s"); walk_at "e"
  walk_at "r"
  walk_at "t"
  (repeat walk_at "s")
  refine ⟨.int (G.length : Nat), by show some (PyData.int (((G.map (prj K l)).map tI).length : Nat)) = _; rw [List.length_map, List.length_map], ?_⟩
  walk_at "s"
  refine ⟨by show 1 ≤ sizeLine; decide, ?_⟩
  refine ⟨_, add_tup (by rw [List.length_map]; simp; omega), ?_, rfl⟩
  unfold tI
  rw [List.map_append]
  rfl
theorem row_hds {m : Nat} (ne : G ≠ []) : MD w__group_row [.d (.str (tx l)), .d (.tuple [.str "heads", .str (tx g)]), .d (tI v), .d (.list ((G.map (prj K l)).map tI))] m fun z m' => z = tI (prj K l (G.headD [])) ∧ m' = m := by
  refine md_def rfl rfl ?_
  unfold t__group_row
  (repeat walk_at "s"); walk_at "e"
  (repeat walk_at "s"); walk_at "e"
  walk_at "r"
  walk_at "t"
  (repeat walk_at "s")
  cases G with
  | nil => exact absurd rfl ne
  | cons a r => exact ⟨_, ix_nat (k := 0) (by simp), rfl, rfl⟩
theorem row_sum {m : Nat} {c : Nat} (hl : ColsOk l) (hc : c ∈ l) (hG : ∀ r ∈ G, r.length = K.length) (few : G.length ≤ 1000) (lv : v.length ≤ 1000) : MD w__group_row [.d (.str (tx l)), .d (.tuple [.str "sum", .str (tx g), sg c]), .d (tI v), .d (.list ((G.map (prj K l)).map tI))] m fun z m' => z = tI (v ++ [(G.map fun r => r.getD (K.idxOf c) 0).sum]) ∧ m' = m := by
  refine md_def rfl rfl ?_
  unfold t__group_row
  (repeat walk_at "s"); walk_at "e"
  (repeat walk_at "s"); walk_at "e"
  walk_at "r"
  walk_at "f"
  (repeat walk_at "s"); walk_at "e"
  (repeat walk_at "s"); walk_at "e"
  walk_at "r"
  walk_at "f"
  (repeat walk_at "s")
  refine ⟨_, rfl, ?_⟩
  (repeat walk_at "s")
  refine ⟨_, ix_t2 _ _ _ _, ?_⟩
  refine ⟨_, index_sg (cols_nodup hl) hc, ?_⟩
  (repeat walk_at "s")
  refine m_sum ?_
  walk_at "s"
  refine m_lcM G (fun r => tI (prj K l r)) (fun r => .int (r.getD (K.idxOf c) 0)) ?_
  (repeat walk_at "s")
  refine ⟨_, rfl, by rw [List.map_map]; rfl, by rw [sizeLine_eq]; omega, fun r hr => ⟨_, rfl, fun m => ?_⟩, ?_⟩
  · (repeat walk_at "s")
    refine ⟨_, cell_ix hl (prj_len l r) hc, ?_, rfl⟩
    have e2 : (prj K l r).getD (l.idxOf c) 0 = r.getD (K.idxOf c) 0 := by
      have := prj_prj (K := K) (l := l) (part := [c]) (fun d hd => by rw [List.mem_singleton.mp hd]; exact hc) r
      exact (List.cons.inj (show [(prj K l r).getD (l.idxOf c) 0] = [r.getD (K.idxOf c) 0] from this)).1
    rw [e2]
  refine ⟨G.map fun r => r.getD (K.idxOf c) 0, by rw [List.map_map]; rfl, ?_⟩
  walk_at "s"
  refine ⟨by show 1 ≤ sizeLine; decide, ?_⟩
  refine ⟨_, add_tup (by rw [List.length_map]; simp; omega), ?_, rfl⟩
  unfold tI
  rw [List.map_append]
  rfl
theorem grouped_run {f : Fin} {s : Stp} (hf : finS f = [s]) (fo : FinOk l f) (fn : FinNe f) (hl : ColsOk l) (hG : RowsOk K G) (few : G.length ≤ 100) (q : Q (.list ((endO K l f G).map tI)) n) : MD w__grouped [.d (.str (tx l)), .d (.list ((G.map (prj K l)).map tI)), .d (stpD s)] n Q := by
  have h5 := hl.few
  have okl : RowsOk l (G.map (prj K l)) := rows_prj hG
  have key : ∀ (g : List Nat) (w : Str) (r : List PyData) (out : List Int → List Int), stpD s = .tuple (.str w :: .str (tx g) :: r) → g.Sublist l → g ≠ [] →
      (∀ v ∈ keysS K g G, ∀ m, MD w__group_row [.d (.str (tx l)), .d (stpD s), .d (tI v), .d (.list (((grpR K g G v).map (prj K l)).map tI))] m fun z m' => z = tI (out v) ∧ m' = m) → endO K l f G = (keysS K g G).map out →
      MD w__grouped [.d (.str (tx l)), .d (.list ((G.map (prj K l)).map tI)), .d (stpD s)] n Q := fun g w r out es gl gne row eo => by
    refine md_def rfl rfl ?_
    unfold t__grouped
    refine n_group (x := .str (tx l)) (y := stpD s) ⟨by simp [env0], by simp [env0], by simp [env0], by simp [env0]⟩ (fun i s' h => ?_) rfl rfl ?_
    · have := List.mem_of_getElem? h
      simp [env0] at this
      rcases this with rfl | rfl | rfl <;> exact ⟨_, rfl⟩
    rw [es]
    walk_at "s"
    walk_at "s"
    (repeat walk_at "s")
    refine ⟨_, ix_t1 _ _ _, ?_⟩
    (repeat walk_at "s")
    have lg := gl.length_le
    refine projected_run hl okl.len (fun c hc => gl.subset hc) (by omega) (by rw [List.length_map]; omega) ?_
    (repeat walk_at "s")
    refine ⟨_, _, .inl ⟨rfl, rfl⟩, ?_⟩
    have e1 : (G.map (prj K l)).map (prj l g) = G.map (prj K g) := by
      rw [List.map_map]
      exact List.map_congr_left fun r _ => prj_prj (fun c hc => gl.subset hc) r
    rw [e1, zip_rows]
    have e2 : (G.map fun r => (prj K g r, tI (prj K l r))).map (fun p : Gp => p.1) = G.map (prj K g) := by rw [List.map_map]; rfl
    refine ⟨by rw [List.length_map, List.length_map]; omega, rfl, G.map (fun r => (prj K g r, tI (prj K l r))), keysS K g G, fun v => tI (out v), rfl, ?_⟩
    rw [e2]
    refine ⟨alike_ti (id : Row → Row) _, sortable_ti (id : Row → Row) _ fun b hb e => ?_, srt_keys, fun k hk => keysS_mem.mp hk, fun k hk m => ?_, ?_⟩
    · obtain ⟨r, _, rfl⟩ := List.mem_map.mp (keysOf_mem.mp hb)
      exact gne (List.map_eq_nil_iff.mp e)
    · rw [rows_at]
      rw [← es]
      exact row k hk m
    · have : (keysS K g G).map (fun v => tI (out v)) = ((keysS K g G).map out).map tI := by rw [List.map_map]; rfl
      rw [this, ← eo]
      exact q
  have lv : ∀ {g : List Nat}, g.Sublist l → ∀ v ∈ keysS K g G, v.length ≤ 1000 := fun gl v hv => by
    obtain ⟨r, _, rfl⟩ := List.mem_map.mp (keysS_mem.mp hv)
    rw [prj_len]
    have := gl.length_le
    omega
  have lr : ∀ {g : List Nat} {v : List Int}, (grpR K g G v).length ≤ 1000 := Nat.le_trans grpR_len (by omega)
  cases f with
  | non => cases hf
  | cnt g =>
    cases hf
    exact key g _ _ _ rfl fo fn (fun v hv m => row_cnt lr (lv fo v hv)) rfl
  | sum g c =>
    cases hf
    exact key g _ _ _ rfl fo.1 fn.1 (fun v hv m => row_sum hl fo.2 (fun r hr => hG.len r (grpR_mem hr).1) lr (lv fo.1 v hv)) rfl
  | hds g =>
    cases hf
    exact key g _ _ _ rfl fo fn (fun v hv m => row_hds (grpR_ne hv)) rfl
end
theorem fin_ok {K : List Nat} (f : Fin) : ∀ st ∈ finS f, StpOk K st := fun st hs => by
  cases f with
  | non => exact nomatch hs
  | cnt g => rw [List.mem_singleton.mp hs]; exact .inl rfl
  | sum g c => rw [List.mem_singleton.mp hs]; exact .inr (.inl rfl)
  | hds g => rw [List.mem_singleton.mp hs]; exact .inr (.inr rfl)
theorem kept_fin {K : List Nat} (sts : List Stp) (f : Fin) : keptR K (sts ++ finS f) = keptR K sts := by
  cases f with
  | non => rw [show finS .non = [] from rfl, List.append_nil]
  | cnt g => exact kept_snoc
  | sum g c => exact kept_snoc
  | hds g => exact kept_snoc
theorem head_ng {K : List Nat} {st : Stp} (so : StpOk K st) (ng : isG st = false) : ∃ w r, stpD st = .tuple (.str w :: r) ∧ isOf ["count", "sum", "heads"] (.str w) = false ∧ isS "count" (.str w) = false ∧ isS "sum" (.str w) = false ∧ isS "heads" (.str w) = false := by
  cases st with
  | whr c v => exact ⟨_, _, rfl, by decide +kernel, by decide +kernel, by decide +kernel, by decide +kernel⟩
  | srt b p => cases b <;> exact ⟨_, _, rfl, by decide +kernel, by decide +kernel, by decide +kernel, by decide +kernel⟩
  | cut b i => cases b <;> exact ⟨_, _, rfl, by decide +kernel, by decide +kernel, by decide +kernel, by decide +kernel⟩
  | col l => exact ⟨_, _, rfl, by decide +kernel, by decide +kernel, by decide +kernel, by decide +kernel⟩
  | grp w r => cases ng
/-- the last step -/
theorem last_ng {K : List Nat} {sts : List Stp} (hs : ∀ st ∈ sts, StpOk K st) (ng : ∀ st ∈ sts, isG st = false) (ne : sts ≠ []) : ∃ w r, eIx (.tuple (sts.map stpD)) (.int (-1)) = some (.tuple (.str w :: r)) ∧ isOf ["count", "sum", "heads"] (.str w) = false ∧ isS "count" (.str w) = false ∧ isS "sum" (.str w) = false ∧ isS "heads" (.str w) = false := by
  have hl := List.getLast_mem ne
  obtain ⟨w, r, e, h⟩ := head_ng (hs _ hl) (ng _ hl)
  refine ⟨w, r, ?_, h⟩
  rw [ix_lastT (by simpa using ne), List.getLast_map]
  exact congrArg some e
theorem ix_snocT (xs : List PyData) (d : PyData) : eIx (.tuple (xs ++ [d])) (.int (-1)) = some d := by
  rw [ix_lastT (by simp)]
  simp
section
variable {n : Nat} {Q : PyData → Nat → Prop} {K l : List Nat} {rules : List Rule} {keys : List (List Nat)} {G : List Row}
theorem fin_head {f : Fin} {s : Stp} (h : s ∈ finS f) : finS f = [s] ∧ isSrt0 s = false ∧ ∃ (w : Str) (r : List PyData), stpD s = .tuple (.str w :: r) ∧ w ∈ (["count", "sum", "heads"] : List Str) := by
  cases f with
  | non => cases h
  | cnt g => rw [List.mem_singleton.mp h]; exact ⟨rfl, rfl, _, _, rfl, by decide +kernel⟩
  | sum g c => rw [List.mem_singleton.mp h]; exact ⟨rfl, rfl, _, _, rfl, by decide +kernel⟩
  | hds g => rw [List.mem_singleton.mp h]; exact ⟨rfl, rfl, _, _, rfl, by decide +kernel⟩
theorem grp_words : ∀ w ∈ (["count", "sum", "heads"] : List Str), isOf ["sort", "stable"] (.str w) = false ∧ isS "sort" (.str w) = false ∧ isS "where" (.str w) = false ∧ isS "first" (.str w) = false ∧ isS "skip" (.str w) = false ∧ isS "columns" (.str w) = false := by decide +kernel
theorem kind_any {f : Fin} {sts : List Stp} {st : Stp} (ng : ∀ s ∈ sts, isG s = false) (h : st ∈ sts ++ finS f) : ∃ w r, stpD st = .tuple (w :: r) ∧ eEq w (.str "sort") = some (.bool (isSrt0 st)) := by
  rcases List.mem_append.mp h with h | h
  · obtain ⟨w, r, e, _, q⟩ := kind_sort (ng st h)
    exact ⟨w, r, e, q⟩
  · obtain ⟨_, e0, w, r, e, hw⟩ := fin_head h
    refine ⟨_, r, e, ?_⟩
    rw [e0, Pu.eq_str]
    exact congrArg (fun b => some (PyData.bool b)) (grp_words w hw).2.1
theorem filter_fin {f : Fin} (sts : List Stp) : (sts ++ finS f).filter isSrt0 = sts.filter isSrt0 := by
  rw [List.filter_append]
  cases f <;> simp [finS, isSrt0]
theorem rows_grp_run {f : Fin} {s : Stp} (hf : finS f = [s]) (fo : FinOk l f) (fn : FinNe f) (hl : ColsOk l) (hG : RowsOk K G) (few : G.length ≤ 100) (q : Q (.list ((endO K l f G).map tI)) n) : MD w_rows_after_v1 [.d (.str (tx l)), .d (.list ((G.map (prj K l)).map tI)), .d (stpD s)] n Q := by
  obtain ⟨_, _, w, r, es, hw⟩ := fin_head (f := f) (s := s) (by rw [hf]; exact List.mem_singleton.mpr rfl)
  obtain ⟨w0, w1, w2, w3, w4, w5⟩ := grp_words w hw
  refine md_def rfl rfl ?_
  unfold t_rows_after_v1
  have inS : ∀ w : Str, eIn false (.str w) (.tuple [.str "sort", .str "stable"]) = some (.bool (isOf ["sort", "stable"] (.str w))) := fun w => by
    have := in_tup (neg := false) ["sort", "stable"] (.str w)
    rw [Bool.false_xor] at this
    exact this
  (repeat walk_at "s")
  refine ⟨.str w, by rw [es]; exact ix_t0 _ _, ?_⟩
  (repeat walk_at "s")
  refine ⟨_, inS _, ?_⟩
  rw [w0]
  walk_at "r"
  walk_at "f"
  (repeat walk_at "s"); walk_at "e"
  rw [w2]
  walk_at "r"
  walk_at "f"
  (repeat walk_at "s"); walk_at "e"
  rw [w3]
  walk_at "r"
  walk_at "f"
  (repeat walk_at "s"); walk_at "e"
  rw [w4]
  walk_at "r"
  walk_at "f"
  (repeat walk_at "s"); walk_at "e"
  rw [w5]
  walk_at "r"
  walk_at "f"
  (repeat walk_at "s")
  exact grouped_run hf fo fn hl hG few q
theorem kept_fin_run {f : Fin} {s : Stp} (h : s ∈ finS f) (q : Q (.str (tx l)) n) : MD w_kept_after [.d (.str (tx l)), .d (stpD s)] n Q := by
  have e : keptL l s = l := by
    cases f with
    | non => cases h
    | cnt g => rw [List.mem_singleton.mp h]; rfl
    | sum g c => rw [List.mem_singleton.mp h]; rfl
    | hds g => rw [List.mem_singleton.mp h]; rfl
  refine kept_after_run (K0 := l) (fin_ok f s h) ?_
  rw [e]
  exact q
/-- the orders that leave equal rows as they stand -/
def firstO (K : List Nat) : List Stp → List Row → List (List Nat) → List Row → Prop
  | [], G, os, G' => os = [] ∧ G' = G
  | .srt false p :: r, G, os, G' => ∃ os', os = stO (prj K p) G :: os' ∧ firstO K r (G.mergeSort (leB (prj K p))) os' G'
  | s :: r, G, os, G' => firstO K r (oneS K s G) os G'
theorem first_way : ∀ {sts : List Stp} {G G' : List Row} {os : List (List Nat)}, firstO K sts G os G' → Way K sts G os G'
  | [], _, _, _, h => h
  | .srt false p :: r, G, G', os, ⟨os', e, h⟩ => ⟨_, os', e, stO_perm _ _, by rw [pick_stO]; exact asc_ms _ _, by rw [pick_stO]; exact first_way h⟩
  | .srt true p :: r, _, _, _, h => first_way (sts := r) h
  | .whr c v :: r, _, _, _, h => first_way (sts := r) h
  | .cut b i :: r, _, _, _, h => first_way (sts := r) h
  | .col l :: r, _, _, _, h => first_way (sts := r) h
  | .grp w a :: r, _, _, _, h => first_way (sts := r) h
theorem first_one {s : Stp} {r : List Stp} {G G' : List Row} {os : List (List Nat)} (h : isSrt0 s = false) : firstO K (s :: r) G os G' = firstO K r (oneS K s G) os G' := by
  cases s with
  | srt b p => cases b with
    | true => rfl
    | false => cases h
  | _ => rfl
end
section
variable {n : Nat} {Q : PyData → Nat → Prop} {K l : List Nat} {rules : List Rule} {keys : List (List Nat)} {G : List Row}
theorem grp_words2 : ∀ w ∈ (["count", "sum", "heads"] : List Str), isS "stable" (.str w) = false := by decide +kernel
theorem one_way_fin {f : Fin} {s : Stp} {rs : PyData} (h : s ∈ finS f) (q : Q rs n) : MD w__law_one_way [.d (schD K rules keys), .d rs, .d (stpD s)] n Q := by
  obtain ⟨_, _, w, r, es, hw⟩ := fin_head h
  obtain ⟨w0, w1, w2, w3, w4, w5⟩ := grp_words w hw
  refine md_def rfl rfl ?_
  unfold t__law_one_way
  rw [es]
  (repeat walk_at "s"); walk_at "e"
  (repeat walk_at "s"); walk_at "e"
  rw [w2]
  walk_at "r"
  walk_at "f"
  (repeat walk_at "s"); walk_at "e"
  (repeat walk_at "s"); walk_at "e"
  rw [grp_words2 w hw]
  walk_at "r"
  walk_at "f"
  (repeat walk_at "s"); walk_at "e"
  (repeat walk_at "s"); walk_at "e"
  rw [w3]
  walk_at "r"
  walk_at "f"
  (repeat walk_at "s"); walk_at "e"
  (repeat walk_at "s"); walk_at "e"
  rw [w4]
  walk_at "r"
  walk_at "f"
  (repeat walk_at "s")
  exact q
end
section
variable {n : Nat} {Q : PyData → Nat → Prop} {K l : List Nat} {rules : List Rule} {keys : List (List Nat)} {G : List Row}
/-- a sort's key: the cells, then the place -/
def ckD (v : List Int) (k : Nat) : PyData := .tuple [liD v, .int (k : Int)]
theorem ck_alike {β : Type} (f : β → List Int) (g : β → Nat) (l : List β) : W.AllAlike (l.map fun b => ckD (f b) (g b)) := by
  intro d hd d' hd'
  obtain ⟨x, _, rfl⟩ := List.mem_map.mp hd
  obtain ⟨y, _, rfl⟩ := List.mem_map.mp hd'
  show W.alike (.tuple [.list _, .int _]) (.tuple [.list _, .int _]) = true
  simp [W.alike, W.alikeAll, alike_ints]
theorem ck_sortable {β : Type} (f : β → List Int) (g : β → Nat) (l : List β) : W.Sortable (l.map fun b => ckD (f b) (g b)) := .inl fun d hd => by
  obtain ⟨x, _, rfl⟩ := List.mem_map.mp hd
  exact ⟨_, _, rfl⟩
theorem ck_depth (v : List Int) (k : Nat) : (ckD v k).depth ≤ 40 := by
  have := depth_li v
  show PyData.depth (.tuple [liD v, .int _]) ≤ 40
  simp only [PyData.depth, PyData.depthAll]
  omega
def leC (f : Nat → List Int) (k m : Nat) : Bool := if f k = f m then decide (k ≤ m) else ll (f k) (f m)
theorem le_ck (f : Nat → List Int) (k m : Nat) : W.dataLe false id (ckD (f k) k) (ckD (f m) m) = leC f k m := by
  show (!W.dataLt (ckD (f m) m) (ckD (f k) k)) = _
  unfold ckD
  rw [show W.dataLt (.tuple [liD (f m), .int (m : Int)]) (.tuple [liD (f k), .int (k : Int)]) = _ from W.dataLt_pair (by show W.alike (.list _) (.list _) = true; rw [W.alike]; exact alike_ints _ _) rfl]
  have e1 := liD_eqv (f m) (f k)
  have e2 : PyData.eqv (.int (m : Int)) (.int (k : Int)) = decide (m = k) := by rw [PyData.eqv]; exact Bool.eq_iff_iff.mpr (by simp; omega)
  have e3 : (!W.dataLt (liD (f m)) (liD (f k))) = ll (f k) (f m) := congrFun (congrFun (le_li f) k) m
  rw [e1, e2, W.dataLt_int]
  unfold leC
  by_cases h : f m = f k
  · rw [if_pos (decide_eq_true h), if_pos h.symm]
    by_cases h2 : m = k
    · rw [if_pos (decide_eq_true h2), h2]
      simp
    · rw [if_neg (by simpa using h2)]
      have : decide ((m : Int) < (k : Int)) = !decide (k ≤ m) := by
        by_cases h3 : k ≤ m
        · rw [decide_eq_true h3, decide_eq_false (by omega)]; rfl
        · rw [decide_eq_false h3, decide_eq_true (by omega)]; rfl
      rw [this, Bool.not_not]
  · rw [if_neg (by simpa using h), if_neg fun z => h z.symm, e3]
theorem leC_trans (f : Nat → List Int) (a b c : Nat) (h1 : leC f a b = true) (h2 : leC f b c = true) : leC f a c = true := by
  unfold leC at *
  by_cases e1 : f a = f b
  · rw [if_pos e1] at h1
    by_cases e2 : f b = f c
    · rw [if_pos e2] at h2
      rw [if_pos (e1.trans e2)]
      have := of_decide_eq_true h1
      have := of_decide_eq_true h2
      exact decide_eq_true (by omega)
    · rw [if_neg e2] at h2
      rw [if_neg (by rw [e1]; exact e2), e1]
      exact h2
  · rw [if_neg e1] at h1
    by_cases e2 : f b = f c
    · rw [if_neg (by rw [← e2]; exact e1), ← e2]
      exact h1
    · rw [if_neg e2] at h2
      have t := ll_trans h1 h2
      rw [if_neg (fun z => e1 (ll_anti h1 (by rw [z]; exact h2)))]
      exact t
theorem leC_total (f : Nat → List Int) (a b : Nat) : (leC f a b || leC f b a) = true := by
  unfold leC
  by_cases e : f a = f b
  · rw [if_pos e, if_pos e.symm]
    simp only [Bool.or_eq_true, decide_eq_true_eq]
    omega
  · rw [if_neg e, if_neg fun z => e z.symm, Bool.or_eq_true]
    exact ll_total _ _
theorem leC_anti (f : Nat → List Int) {a b : Nat} (h1 : leC f a b = true) (h2 : leC f b a = true) : a = b := by
  unfold leC at *
  by_cases e : f a = f b
  · rw [if_pos e] at h1
    rw [if_pos e.symm] at h2
    have := of_decide_eq_true h1
    have := of_decide_eq_true h2
    omega
  · rw [if_neg e] at h1
    rw [if_neg fun z => e z.symm] at h2
    exact absurd (ll_anti h1 h2) e
theorem perm_one {α : Type} {le : α → α → Bool} (an : ∀ a b, le a b = true → le b a = true → a = b) : ∀ {l m : List α}, l.Pairwise (fun a b => le a b = true) → m.Pairwise (fun a b => le a b = true) → l.Perm m → l = m
  | [], m, _, _, p => p.symm.eq_nil.symm
  | a :: l, [], _, _, p => absurd p.eq_nil (by simp)
  | a :: l, b :: m, h1, h2, p => by
    obtain ⟨a1, a2⟩ := List.pairwise_cons.mp h1
    obtain ⟨b1, b2⟩ := List.pairwise_cons.mp h2
    have e : a = b := by
      rcases List.mem_cons.mp (p.mem_iff.mp List.mem_cons_self) with e | e
      · exact e
      · rcases List.mem_cons.mp (p.mem_iff.mpr List.mem_cons_self) with e' | e'
        · exact e'.symm
        · exact an _ _ (a1 b e') (b1 a e)
    subst e
    rw [perm_one an a2 b2 p.cons_inv]
/-- ascending by the cells, then by the place: equal rows as they stand -/
theorem sort_ck (f : Nat → List Int) (m : Nat) : (List.range m).mergeSort (leC f) = (List.range m).mergeSort (leB f) := by
  refine perm_one (fun a b => leC_anti f) (List.pairwise_mergeSort (leC_trans f) (leC_total f) _) ?_ ((List.mergeSort_perm _ _).trans (List.mergeSort_perm _ _).symm)
  have h1 := asc_ms f (List.range m)
  have h2 := ms_stable (R := (· ≤ ·)) f (List.pairwise_le_range (n := m))
  refine (List.Pairwise.and h1 h2).imp fun {a b} ⟨x, y⟩ => ?_
  unfold leC
  by_cases e : f a = f b
  · rw [if_pos e]
    exact decide_eq_true (y e)
  · rw [if_neg e]
    exact x
theorem law_first_run {sts : List Stp} {f : Fin} (hK : ColsOk K) (hs : ∀ s ∈ sts, StpOk K s) (ng : ∀ s ∈ sts, isG s = false) (ls : sts.length ≤ 8) (hG : RowsOk K G) (few : G.length ≤ 20)
    (q : ∀ os G', firstO K sts G os G' → G'.length ≤ G.length → (∀ r ∈ G', r ∈ G) → Q (.tuple [.list ((List.range G.length :: os).map ordD), .list (G'.map tI)]) n) :
    MD w__law_first [.d (schD K rules keys), .d (.tuple ((sts ++ finS f).map stpD)), .d (.list (G.map tI))] n Q := by
  have h5 := hK.few
  refine md_def rfl rfl ?_
  unfold t__law_first
  walk_at "s"
  refine n_unpLD ?_
  (repeat walk_at "s")
  refine m_listR ?_
  (repeat walk_at "s")
  refine ⟨.int (G.length : Nat), by show some (PyData.int ((G.map tI).length : Nat)) = _; rw [List.length_map], ?_⟩
  refine ⟨G.length, rfl, by omega, ?_⟩
  rw [rng_nat]
  (repeat walk_at "s")
  refine ⟨by show 1 ≤ sizeLine; decide, ?_⟩
  (repeat walk_at "s"); walk_at "r"
  walk_at "s"
  refine n_for ?_
  (repeat walk_at "s")
  refine ⟨_, rfl, fun rest e m => m = n ∧ ((∃ (pre post : List Stp) (os1 : List (List Nat)) (Gc : List Row) (x5 x6 : Option Sl), sts = pre ++ post ∧ rest = (post ++ finS f).map stpD ∧ (∀ os2 G', firstO K post Gc os2 G' → firstO K sts G (os1 ++ os2) G') ∧ os1.length ≤ pre.length ∧ Gc.length ≤ G.length ∧ (∀ r ∈ Gc, r ∈ G) ∧
      e = [some (.d (schD K rules keys)), some (.d (.tuple ((sts ++ finS f).map stpD))), some (.d (.list (G.map tI))), some (.l ((List.range G.length :: os1).map ordD)), some (.d (.list (Gc.map tI))), x5, x6, none]) ∨
      (rest = [] ∧ ∃ (os : List (List Nat)) (G' : List Row) (x0 x1 x2 x5 x6 x7 : Option Sl), firstO K sts G os G' ∧ G'.length ≤ G.length ∧ (∀ r ∈ G', r ∈ G) ∧ e = [x0, x1, x2, some (.l ((List.range G.length :: os).map ordD)), some (.d (.list (G'.map tI))), x5, x6, x7])),
    ⟨rfl, .inl ⟨[], sts, [], G, none, none, rfl, rfl, fun _ _ h => h, Nat.le_refl _, Nat.le_refl _, fun _ h => h, rfl⟩⟩, fun x rest e m hI => ?_, fun e m hI => ?_⟩
  · obtain ⟨rfl, hI⟩ := hI
    rcases hI with ⟨pre, post, os1, Gc, x5, x6, e1, e2, hfo, lo, lc, sub, rfl⟩ | ⟨z, _⟩
    rotate_left
    · cases z
    have okc : RowsOk K Gc := hG.sub sub
    cases post with
    | nil =>
      rw [List.nil_append] at e2
      rw [List.append_nil] at e1
      subst e1
      obtain ⟨s, r0, hfs⟩ : ∃ s r0, finS f = s :: r0 := by
        cases f <;> first | exact ⟨_, _, rfl⟩ | cases e2
      have hs : s ∈ finS f := by rw [hfs]; exact List.mem_cons_self
      obtain ⟨hf1, s0, w, r, ed, hwd⟩ := fin_head hs
      rw [hf1] at e2
      obtain ⟨rfl, rfl⟩ := List.cons.inj e2
      have hend := hfo [] Gc ⟨rfl, rfl⟩
      rw [List.append_nil] at hend
      refine ⟨_, rfl, ?_⟩
      walk_at "s"; walk_at "s"; walk_at "s"; walk_at "s"; walk_at "s"
      rw [ed]
      (repeat walk_at "s")
      refine ⟨_, ix_t0 _ _, ?_⟩
      (repeat walk_at "s")
      refine ⟨_, Pu.eq_str _ _, ?_⟩
      rw [(grp_words w hwd).2.1]
      walk_at "r"
      rw [← ed]
      walk_at "f"
      walk_at "s"
      refine m_call (m_aName (s := .d (schD K rules keys)) rfl (m_aName (s := .d (.list (Gc.map tI))) rfl (m_aName (s := .d (stpD s)) rfl (m_aNil ?_))))
      refine one_way_fin hs ?_
      exact ⟨rfl, .inr ⟨rfl, os1, Gc, _, _, _, _, _, _, hend, lc, sub, rfl⟩⟩
    | cons st post =>
    rw [List.cons_append, List.map_cons] at e2
    obtain ⟨rfl, rfl⟩ := List.cons.inj e2
    have mst : st ∈ sts := by rw [e1]; simp
    have so := hs st mst
    have sg := ng st mst
    have lpre : pre.length + 1 ≤ 8 := by
      have := congrArg List.length e1
      rw [List.length_append, List.length_cons] at this
      omega
    refine ⟨_, rfl, ?_⟩
    obtain ⟨w, r, ed, _, eeq⟩ := kind_sort sg
    walk_at "s"; walk_at "s"; walk_at "s"; walk_at "s"; walk_at "s"
    rw [ed]
    (repeat walk_at "s")
    refine ⟨_, ix_t0 _ _, ?_⟩
    (repeat walk_at "s")
    refine ⟨_, eeq, ?_⟩
    walk_at "r"
    rw [← ed]
    refine ⟨fun z => ?_, fun z => ?_⟩
    · cases st with
      | srt b p =>
        cases b with
        | true => cases z
        | false =>
        have lp := nodup_len so.2 so.1
        walk_at "s"
        walk_at "s"
        walk_at "s"
        refine m_sortK (m_colR ?_)
        (repeat walk_at "s")
        refine ⟨.int (Gc.length : Nat), by show some (PyData.int ((Gc.map tI).length : Nat)) = _; rw [List.length_map], ?_⟩
        refine ⟨Gc.length, rfl, by omega, ?_⟩
        rw [rng_nat]
        refine ⟨by rw [List.length_map, List.length_range]; omega, fun d => ckD (prj K p (Gc.getD (intOf d).toNat [])) (intOf d).toNat, ?_⟩
        refine ⟨ck_alike _ _ _, ck_sortable _ _ _, fun d hd => ck_depth _ _, fun x hx m' => ?_, ?_⟩
        · obtain ⟨k, hk, rfl⟩ := List.mem_map.mp hx
          have hk : k < Gc.length := List.mem_range.mp hk
          have gk : Gc.getD k [] = Gc[k] := by rw [List.getD_eq_getElem?_getD, List.getElem?_eq_getElem hk]; rfl
          (repeat walk_at "s")
          refine ⟨_, ix_nat (by rw [List.length_map]; exact hk), ?_⟩
          rw [List.getElem_map]
          (repeat walk_at "s"); walk_at "e"
          (repeat walk_at "s")
          refine cells_run (part := p) hK (okc.len _ (List.getElem_mem hk)) so.1 (by omega) ?_
          (repeat walk_at "s")
          refine ⟨by show 2 ≤ sizeLine; decide, ?_, rfl⟩
          show PyData.tuple [liD (prj K p Gc[k]), .int (k : Int)] = ckD (prj K p (Gc.getD ((k : Int)).toNat [])) ((k : Int)).toNat
          rw [Int.toNat_natCast, gk]
          rfl
        · have es : ((List.range Gc.length).map fun (k : Nat) => PyData.int (k : Int)).mergeSort (W.dataLe false fun d => ckD (prj K p (Gc.getD (intOf d).toNat [])) (intOf d).toNat) = (stO (prj K p) Gc).map fun (k : Nat) => PyData.int (k : Int) := by
            unfold stO
            rw [← sort_ck]
            refine (List.map_mergeSort fun x _ y _ => ?_).symm
            show leC _ x y = W.dataLe false id (ckD (prj K p (Gc.getD ((x : Int)).toNat [])) ((x : Int)).toNat) (ckD (prj K p (Gc.getD ((y : Int)).toNat [])) ((y : Int)).toNat)
            rw [Int.toNat_natCast, Int.toNat_natCast]
            exact (le_ck (fun k => prj K p (Gc.getD k [])) x y).symm
          rw [es]
          have hp2 := stO_perm (prj K p) Gc
          have epk := pick_stO (prj K p) Gc
          have hfo2 : ∀ os3 G', firstO K post (pick Gc (stO (prj K p) Gc)) os3 G' → firstO K sts G ((os1 ++ [stO (prj K p) Gc]) ++ os3) G' := fun os3 G' h => by
            rw [List.append_assoc]
            rw [epk] at h
            exact hfo _ _ ⟨os3, rfl, h⟩
          generalize stO (prj K p) Gc = o2 at hp2 hfo2
          have lo2 : o2.length = Gc.length := by rw [hp2.length_eq, List.length_range]
          walk_at "s"
          refine n_app rfl ?_
          walk_at "s"
          refine ⟨by rw [List.length_map, sizeLine_eq]; simp; omega, ?_⟩
          walk_at "s"
          walk_at "s"
          refine m_lcM o2 (fun (k : Nat) => .int (k : Int)) (fun k => tI (Gc.getD k [])) ?_
          (repeat walk_at "s")
          refine ⟨_, rfl, rfl, by rw [sizeLine_eq]; omega, fun k hk => ⟨_, rfl, fun m => ?_⟩, ?_⟩
          · have hk : k < Gc.length := List.mem_range.mp (hp2.mem_iff.mp hk)
            (repeat walk_at "s")
            refine ⟨_, ix_nat (by rw [List.length_map]; exact hk), ?_, rfl⟩
            rw [List.getElem_map, List.getD_eq_getElem?_getD, List.getElem?_eq_getElem hk]
            rfl
          have e3 : o2.map (fun k => tI (Gc.getD k [])) = (pick Gc o2).map tI := by unfold pick; rw [List.map_map]; rfl
          rw [e3]
          have pG := pick_perm hp2
          refine ⟨rfl, .inl ⟨pre ++ [.srt false p], post, os1 ++ [o2], pick Gc o2, some (.d (stpD (.srt false p))), some (.d (ordD o2)), by rw [e1]; simp, rfl, hfo2, by rw [List.length_append, List.length_append]; simp; exact lo, by rw [pG.length_eq]; exact lc, fun r hr => sub r (pG.mem_iff.mp hr), ?_⟩⟩
          have e4 : (List.range G.length :: (os1 ++ [o2])).map ordD = (List.range G.length :: os1).map ordD ++ [ordD o2] := by simp
          rw [e4]
          rfl
      | _ => cases z
    · have ns : isSrt0 st = false := z
      (repeat walk_at "s")
      refine one_way_run hK so ns sg okc (by omega) ?_
      exact ⟨rfl, .inl ⟨pre ++ [st], post, os1, oneS K st Gc, _, _, by rw [e1]; simp, rfl, fun os3 G' h => hfo _ _ (by rw [first_one ns]; exact h), by rw [List.length_append]; simp; omega, Nat.le_trans (one_len st Gc) lc, fun r hr => sub r (one_mem st Gc r hr), rfl⟩⟩
  · obtain ⟨rfl, hI⟩ := hI
    have fin : ∀ (os : List (List Nat)) (G' : List Row) (x0 x1 x2 x5 x6 x7 : Option Sl), firstO K sts G os G' → G'.length ≤ G.length → (∀ r ∈ G', r ∈ G) →
        MS (sFz 3 (sRet (wTup (wCons (wVal 3) (wCons (wVal 4) wNil))))) [x0, x1, x2, some (.l ((List.range G.length :: os).map ordD)), some (.d (.list (G'.map tI))), x5, x6, x7] m (fun _ m => Q .none m) Q noEnd noEnd := fun os G' x0 x1 x2 x5 x6 x7 h1 h2 h3 => by
      refine n_fz rfl ?_
      (repeat walk_at "s")
      refine ⟨by show 2 ≤ sizeLine; decide, ?_⟩
      exact q os G' h1 h2 h3
    rcases hI with ⟨pre, post, os1, Gc, x5, x6, e1, e2, hfo, lo, lc, sub, rfl⟩ | ⟨_, os, G', x0, x1, x2, x5, x6, x7, hend, lc, sub, rfl⟩
    · have e0 : post = [] := by
        have := List.map_eq_nil_iff.mp e2.symm
        exact (List.append_eq_nil_iff.mp this).1
      subst e0
      have hend := hfo [] Gc ⟨rfl, rfl⟩
      rw [List.append_nil] at hend
      exact fin _ _ _ _ _ _ _ _ hend lc sub
    · exact fin _ _ _ _ _ _ _ _ hend lc sub
end
section
variable {n : Nat} {L : List PyData → Nat → Prop} {K l : List Nat} {rules : List Rule} {keys : List (List Nat)} {G : List Row}
/-- the orders so far, the rest to come -/
theorem firstO_run {sts : List Stp} {f : Fin} (hK : ColsOk K) (ch : Chn K sts) (ls : sts.length ≤ 8) (fo : FinOk (keptR K sts) f) (fn : FinNe f) (hG : RowsOk K G) (few : G.length ≤ 20)
    (q : ∀ os G', firstO K sts G os G' → L ((List.range G.length :: os).map ordD) n) : MDO w_first_script_o [.d (schD K rules keys), .d (.tuple ((sts ++ finS f).map stpD)), .d (.list (G.map tI))] n (fun _ _ => False) L := by
  have h5 := hK.few
  obtain ⟨call, hlE, _⟩ := chn_all ch hK
  have nd := cols_nodup hK
  refine mdo_def rfl rfl ?_
  unfold t_first_script_o
  refine o_seq ?_
  walk_at "s"
  walk_at "s"
  walk_at "s"
  walk_at "s"
  refine m_listR ?_
  (repeat walk_at "s")
  refine ⟨.int (G.length : Nat), by show some (PyData.int ((G.map tI).length : Nat)) = _; rw [List.length_map], ?_⟩
  refine ⟨G.length, rfl, by omega, ?_⟩
  rw [rng_nat]
  (repeat walk_at "s")
  refine ⟨by show 1 ≤ sizeLine; decide, ?_⟩
  refine o_seq ?_
  (repeat walk_at "s")
  refine o_seq ?_
  (repeat walk_at "s")
  refine ⟨_, ix_t0 _ _, ?_⟩
  refine o_seq ?_
  refine n_for ?_
  (repeat walk_at "s")
  refine ⟨_, rfl, fun rest e m => m = n ∧ ((∃ (pre post : List Stp) (os1 : List (List Nat)) (Gc : List Row) (l : List Nat) (x6 : Option Sl), sts = pre ++ post ∧ rest = (post ++ finS f).map stpD ∧ (∀ os2 G', firstO K post Gc os2 G' → firstO K sts G (os1 ++ os2) G') ∧ os1.length ≤ pre.length ∧ RowsOk K Gc ∧ Gc.length ≤ 20 ∧ l = keptR K pre ∧ Chn l post ∧ ColsOk l ∧ l.Sublist K ∧
      e = [some (.d (schD K rules keys)), some (.d (.tuple ((sts ++ finS f).map stpD))), some (.d (.list (G.map tI))), some (.l ((List.range G.length :: os1).map ordD)), some (.d (.list ((Gc.map (prj K l)).map tI))), some (.d (.str (tx l))), x6]) ∨
      (rest = [] ∧ ∃ (os : List (List Nat)) (G' : List Row) (x1 x2 x3 x5 x6 x7 : Option Sl), firstO K sts G os G' ∧ e = [x1, x2, x3, some (.l ((List.range G.length :: os).map ordD)), x5, x6, x7])),
    ⟨rfl, .inl ⟨[], sts, [], G, K, none, rfl, rfl, fun _ _ h => h, Nat.le_refl _, hG, few, rfl, ch, hK, List.Sublist.refl _, by rw [map_self nd hG]; rfl⟩⟩, fun x rest e m hI => ?_, fun e m hI => ?_⟩
  · obtain ⟨rfl, hI⟩ := hI
    rcases hI with ⟨pre, post, os1, Gc, l, x6, e1, e2, hfo, lo, okc, lc, el, chc, hl, lK, rfl⟩ | ⟨z, _⟩
    rotate_left
    · cases z
    have lpre : pre.length ≤ 8 := by
      rw [e1, List.length_append] at ls
      omega
    cases post with
    | nil =>
      rw [List.nil_append] at e2
      rw [List.append_nil] at e1
      subst e1
      obtain ⟨s, r0, hfs⟩ : ∃ s r0, finS f = s :: r0 := by
        cases f <;> first | exact ⟨_, _, rfl⟩ | cases e2
      have hs : s ∈ finS f := by rw [hfs]; exact List.mem_cons_self
      obtain ⟨hf1, s0, w, r, ed, hwd⟩ := fin_head hs
      rw [hf1] at e2
      obtain ⟨rfl, rfl⟩ := List.cons.inj e2
      have hend := hfo [] Gc ⟨rfl, rfl⟩
      rw [List.append_nil] at hend
      refine ⟨_, rfl, ?_⟩
      walk_at "s"; walk_at "s"; walk_at "s"; walk_at "s"; walk_at "s"; walk_at "s"
      rw [ed]
      (repeat walk_at "s")
      refine ⟨_, ix_t0 _ _, ?_⟩
      (repeat walk_at "s")
      refine ⟨_, Pu.eq_str _ _, ?_⟩
      rw [(grp_words w hwd).2.1]
      walk_at "r"
      rw [← ed]
      walk_at "f"
      walk_at "s"
      walk_at "s"
      walk_at "s"
      refine m_call (m_aName (s := .d (.str (tx l))) rfl (m_aName (s := .d (.list ((Gc.map (prj K l)).map tI))) rfl (m_aName (s := .d (stpD s)) rfl (m_aNil ?_))))
      rw [← el] at fo
      refine rows_grp_run hf1 fo fn hl okc (by omega) ?_
      walk_at "s"
      refine m_call (m_aName (s := .d (.str (tx l))) rfl (m_aName (s := .d (stpD s)) rfl (m_aNil ?_)))
      refine kept_fin_run hs ?_
      exact ⟨rfl, .inr ⟨rfl, os1, Gc, _, _, _, _, _, _, hend, rfl⟩⟩
    | cons st post =>
    rw [List.cons_append, List.map_cons] at e2
    obtain ⟨rfl, rfl⟩ := List.cons.inj e2
    obtain ⟨so, sm, sg, chn⟩ := chc
    obtain ⟨hl2, l2⟩ := sm_kept hl so sm
    have okl : RowsOk l (Gc.map (prj K l)) := rows_prj okc
    refine ⟨_, rfl, ?_⟩
    obtain ⟨w, r, ed, _, eeq⟩ := kind_sort sg
    -- the rows behind the step
    have rest : ∀ (B C : En → Nat → Prop) (os2 : List (List Nat)), (∀ os3 G', firstO K post (oneM K st Gc) os3 G' → firstO K sts G (os2 ++ os3) G') → os2.length ≤ pre.length + 1 → (oneM K st Gc).length ≤ 20 → RowsOk K (oneM K st Gc) →
        MS (sSeq (sSet (wCall w_rows_after_v1 (wAName 5 (wAName 4 (wAName 6 wANil)))) 4) (sSet (wCall w_kept_after (wAName 5 (wAName 6 wANil))) 5)) [some (.d (schD K rules keys)), some (.d (.tuple ((sts ++ finS f).map stpD))), some (.d (.list (G.map tI))), some (.l ((List.range G.length :: os2).map ordD)), some (.d (.list ((Gc.map (prj K l)).map tI))), some (.d (.str (tx l))), some (.d (stpD st))] m
          (fun e m' => m' = m ∧ ((∃ (pre post' : List Stp) (os1 : List (List Nat)) (Gc : List Row) (l : List Nat) (x6 : Option Sl), sts = pre ++ post' ∧ (post ++ finS f).map stpD = (post' ++ finS f).map stpD ∧ (∀ os2 G', firstO K post' Gc os2 G' → firstO K sts G (os1 ++ os2) G') ∧ os1.length ≤ pre.length ∧ RowsOk K Gc ∧ Gc.length ≤ 20 ∧ l = keptR K pre ∧ Chn l post' ∧ ColsOk l ∧ l.Sublist K ∧
      e = [some (.d (schD K rules keys)), some (.d (.tuple ((sts ++ finS f).map stpD))), some (.d (.list (G.map tI))), some (.l ((List.range G.length :: os1).map ordD)), some (.d (.list ((Gc.map (prj K l)).map tI))), some (.d (.str (tx l))), x6]) ∨
      ((post ++ finS f).map stpD = [] ∧ ∃ (os : List (List Nat)) (G' : List Row) (x1 x2 x3 x5 x6 x7 : Option Sl), firstO K sts G os G' ∧ e = [x1, x2, x3, some (.l ((List.range G.length :: os).map ordD)), x5, x6, x7]))) (fun _ _ => False) B C := fun B C os2 h lo2 lM okM => by
      walk_at "s"
      walk_at "s"
      refine m_call (m_aName (s := .d (.str (tx l))) rfl (m_aName (s := .d (.list ((Gc.map (prj K l)).map tI))) rfl (m_aName (s := .d (stpD st)) rfl (m_aNil ?_))))
      refine rows_after_run hl so sm sg okc (fun c hc => lK.subset hc) (by omega) ?_
      walk_at "s"
      refine m_call (m_aName (s := .d (.str (tx l))) rfl (m_aName (s := .d (stpD st)) rfl (m_aNil ?_)))
      refine kept_after_run (K0 := l) so ?_
      exact ⟨rfl, .inl ⟨pre ++ [st], post, os2, oneM K st Gc, keptL l st, _, by rw [e1]; simp, rfl, h, by rw [List.length_append]; exact lo2, okM, lM, by rw [kept_snoc, ← el], chn, hl2, l2.trans lK, rfl⟩⟩
    walk_at "s"; walk_at "s"; walk_at "s"; walk_at "s"; walk_at "s"; walk_at "s"
    rw [ed]
    (repeat walk_at "s")
    refine ⟨_, ix_t0 _ _, ?_⟩
    (repeat walk_at "s")
    refine ⟨_, eeq, ?_⟩
    walk_at "r"
    rw [← ed]
    refine ⟨fun z => ?_, fun z => ?_⟩
    · cases st with
      | srt b p =>
        cases b with
        | true => cases z
        | false =>
        refine n_app rfl ?_
        (repeat walk_at "s"); walk_at "e"
        (repeat walk_at "s")
        refine stable_run hl okl (by rw [List.length_map]; omega) so.1 so.2 sm ?_
        rw [stO_map (f := prj K p) fun r _ => prj_prj so.1 r]
        generalize eo2 : stO (prj K p) Gc = o2
        refine ⟨by rw [List.length_map, List.length_cons, sizeLine_eq]; omega, ?_⟩
        have ee : (List.range G.length :: os1).map ordD ++ [ordD o2] = (List.range G.length :: (os1 ++ [o2])).map ordD := by simp
        rw [ee]
        refine rest _ _ (os1 ++ [o2]) (fun os3 G' h => ?_) (by rw [List.length_append]; simp; omega) (by show (Gc.mergeSort _).length ≤ 20; rw [List.length_mergeSort]; exact lc) (okc.perm (List.mergeSort_perm _ _))
        have h : firstO K post (Gc.mergeSort (leB (prj K p))) os3 G' := h
        rw [List.append_assoc]
        exact hfo _ _ ⟨os3, by rw [eo2]; rfl, h⟩
      | _ => cases z
    · have ns : isSrt0 st = false := z
      walk_at "s"
      exact rest _ _ os1 (fun os3 G' h => hfo _ _ (by rw [first_one ns, ← oneM_eq ns]; exact h)) (by omega) (by rw [oneM_eq ns]; exact Nat.le_trans (one_len st Gc) lc) (by rw [oneM_eq ns]; exact okc.sub (one_mem st Gc))
  · obtain ⟨rfl, hI⟩ := hI
    rcases hI with ⟨pre, post, os1, Gc, l, x6, e1, e2, hfo, lo, okc, lc, el, chc, hl, lK, rfl⟩ | ⟨_, os, G', x1, x2, x3, x5, x6, x7, hend, rfl⟩
    · have e0 : post = [] ∧ finS f = [] := by
        have := List.map_eq_nil_iff.mp e2.symm
        exact List.append_eq_nil_iff.mp this
      obtain ⟨rfl, hf0⟩ := e0
      have hend := hfo [] Gc ⟨rfl, rfl⟩
      rw [List.append_nil] at hend
      exact o_retO rfl (q os1 Gc hend)
    · exact o_retO rfl (q os G' hend)
end
section
variable {n : Nat} {Q : PyData → Nat → Prop} {K l g : List Nat} {rules : List Rule} {keys : List (List Nat)} {G : List Row} {v : List Int} {N : En → Nat → Prop} {R : PyData → Nat → Prop} {B C : En → Nat → Prop}
theorem n_unpDL {env : En} {i j : Nat} {ta : WE} {tf : WF} (h : ME ta env n fun y m => ME tf env m fun xs m1 => N ((env.set i (some (.d y))).set j (some (.l xs))) m1) : MS (sUnpDL i j ta tf) env n N R B C :=
  fun PD b hb kn kr kb kc => h b _ hb fun y m b1 q hb1 => q b1 _ hb1 fun xs m1 b2 q1 hb2 => kn _ m1 b2 q1 hb2
theorem eq_tiD (u w : List Int) : eEq (tI u) (tI w) = some (.bool (decide (u = w))) := by
  have d1 : ∀ ns : List Int, dfreeAll (ns.map PyData.int) = true := fun ns => by
    induction ns with
    | nil => rfl
    | cons x r ih => simp [dfreeAll, dfree, ih]
  have d2 : ∀ ns : List Int, PyData.depthAll (ns.map PyData.int) = 0 := fun ns => by
    induction ns with
    | nil => rfl
    | cons x r ih => simp [PyData.depthAll, PyData.depth, ih]
  unfold eEq
  rw [if_pos (by simp [tI, dfree, d1, PyData.depth, d2]), tI_eqv]
def inK (v : List Int) : List Key := v.map Sum.inl
def outK (k : List Key) : List Int := k.map fun | .inl i => i | .inr _ => 0
theorem out_in (v : List Int) : outK (inK v) = v := by
  unfold outK inK
  rw [List.map_map]
  exact List.map_id v
theorem tK_in (v : List Int) : tK (inK v) = tI v := by
  unfold tK inK tI
  rw [List.map_map]
  rfl
theorem perm_ll {a b : List (List Int)} (p : a.Perm b) : a.mergeSort ll = b.mergeSort ll := by
  have one : ∀ {l m : List (List Int)}, l.Pairwise (fun a b => ll a b = true) → m.Pairwise (fun a b => ll a b = true) → l.Perm m → l = m := by
    intro l
    induction l with
    | nil => intro m _ _ p; exact p.symm.eq_nil.symm
    | cons a l ih =>
      intro m h1 h2 p
      cases m with
      | nil => exact absurd p.eq_nil (by simp)
      | cons b m =>
        obtain ⟨a1, a2⟩ := List.pairwise_cons.mp h1
        obtain ⟨b1, b2⟩ := List.pairwise_cons.mp h2
        have e : a = b := by
          rcases List.mem_cons.mp (p.mem_iff.mp List.mem_cons_self) with e | e
          · exact e
          · rcases List.mem_cons.mp (p.mem_iff.mpr List.mem_cons_self) with e' | e'
            · exact e'.symm
            · exact ll_anti (a1 b e') (b1 a e)
        subst e
        rw [ih a2 b2 p.cons_inv]
  have so : ∀ l : List (List Int), (l.mergeSort ll).Pairwise (fun a b => ll a b = true) := fun l => List.pairwise_mergeSort (le := ll) (fun a b c h1 h2 => ll_trans h1 h2) (fun a b => by rw [Bool.or_eq_true]; exact ll_total a b) l
  exact one (so a) (so b) ((List.mergeSort_perm _ _).trans (p.trans (List.mergeSort_perm _ _).symm))
theorem keys_srt {ms : List (List Key)} (h : ms.Perm (dist ((G.map (prj K g)).map inK))) : srt (ms.map tK) = (keysS K g G).map tI := by
  have e1 : (ms.map outK).map inK = ms := by
    rw [List.map_map]
    conv => rhs; rw [← List.map_id ms]
    refine List.map_congr_left fun k hk => ?_
    obtain ⟨v, _, rfl⟩ := List.mem_map.mp (mem_dist.mp (h.mem_iff.mp hk))
    show inK (outK (inK v)) = inK v
    rw [out_in]
  have e2 : ms.map tK = (ms.map outK).map tI := by
    conv => lhs; rw [← e1, List.map_map]
    exact List.map_congr_left fun v _ => tK_in v
  have nd : (ms.map outK).Nodup := by
    have : ((ms.map outK).map inK).Nodup := by rw [e1]; exact h.nodup_iff.mpr (dist_nodup _)
    exact List.Pairwise.of_map _ (fun a b hab e => hab (by rw [e])) this
  have p : (ms.map outK).Perm (keysOf (G.map (prj K g))) := (List.perm_ext_iff_of_nodup nd (keysOf_nodup _)).mpr fun z => by
    rw [keysOf_mem]
    constructor
    · intro hz
      obtain ⟨k, hk, rfl⟩ := List.mem_map.mp hz
      obtain ⟨v, hv, rfl⟩ := List.mem_map.mp (mem_dist.mp (h.mem_iff.mp hk))
      rw [out_in]
      exact hv
    · intro hz
      exact List.mem_map.mpr ⟨inK z, h.mem_iff.mpr (mem_dist.mpr (List.mem_map_of_mem hz)), out_in z⟩
  rw [e2]
  unfold srt keysS
  rw [← perm_ll p]
  refine (List.map_mergeSort fun a _ b _ => ?_).symm
  exact (congrFun (congrFun (le_ti (id : Row → Row)) a) b).symm
theorem ended_run {sts : List Stp} {f : Fin} (hK : ColsOk K) (hs : ∀ s ∈ sts, StpOk K s) (ng : ∀ s ∈ sts, isG s = false) (el : l = keptR K sts) (fo : FinOk l f) (fn : FinNe f) (hl : ColsOk l) (lK : l.Sublist K) (hG : RowsOk K G) (few : G.length ≤ 20) (q : Q (.list ((endO K l f G).map tI)) n) :
    MD w__law_ended [.d (schD K rules keys), .d (.tuple ((sts ++ finS f).map stpD)), .d (.list (G.map tI))] n Q := by
  have h5 := hK.few
  have l5 := hl.few
  have hs2 : ∀ st ∈ sts ++ finS f, StpOk K st := fun st hst => (List.mem_append.mp hst).elim (hs st) (fin_ok f st)
  refine md_def rfl rfl ?_
  unfold t__law_ended
  walk_at "s"
  (repeat walk_at "s")
  refine law_kept_run hs2 ?_
  rw [kept_fin, ← el]
  -- the groups
  have key : ∀ (g : List Nat) (w : Str) (r : List PyData) (out : List Int → List Int), (sts ++ finS f).map stpD = sts.map stpD ++ [.tuple (.str w :: .str (tx g) :: r)] → w ∈ (["count", "sum", "heads"] : List Str) → g.Sublist l → g ≠ [] →
      (∀ v ∈ keysS K g G, ∀ (xs : List PyData) (y6 : Option Sl) (m : Nat) (N B C : En → Nat → Prop), xs.length < sizeLine → N [some (.d (schD K rules keys)), some (.d (.tuple ((sts ++ finS f).map stpD))), some (.d (.list (G.map tI))), some (.d (.str (tx l))), some (.d (.tuple (.str w :: .str (tx g) :: r))), some (.l (xs ++ [tI (out v)])), y6, some (.d (tI v)), some (.d (.list ((grpR K g G v).map tI))), none] m →
        MS (sIf (wTt (wOp pEq2 (wOp pIx (wVar 4) (wC (.int 0))) (wC (.str "heads")))) (sApp 5 (w1 pTupA (wCall w__law_cells (wAName 0 (wACons (wOp pIx (wVar 8) (wC (.int 0))) (wAName 3 wANil)))))) (sIf (wTt (wOp pEq2 (wOp pIx (wVar 4) (wC (.int 0))) (wC (.str "count")))) (sApp 5 (wOp pAdd (wVar 7) (wTup (wCons (w1 pLen (wVar 8)) wNil)))) (sApp 5 (wOp pAdd (wVar 7) (wTup (wCons (w1 pSum (fz (fLc (wSeq (wVar 8)) (.nm 9) wYes (wOp pIx (wCall w__law_cells (wAName 0 (wAName 9 (wACons (wOp pIx (wVar 4) (wC (.int 2))) wANil)))) (wC (.int 0))) [9]))) wNil)))))) [some (.d (schD K rules keys)), some (.d (.tuple ((sts ++ finS f).map stpD))), some (.d (.list (G.map tI))), some (.d (.str (tx l))), some (.d (.tuple (.str w :: .str (tx g) :: r))), some (.l xs), y6, some (.d (tI v)), some (.d (.list ((grpR K g G v).map tI))), none] m N Q B C) →
      endO K l f G = (keysS K g G).map out →
      MS (sSeq (sIf (wOrT (wTt (wOp pEq2 (wVar 1) (wTup wNil))) (wTt (wOp (pIn2 true) (wOp pIx (wOp pIx (wVar 1) (wNeg (wC (.int 1)))) (wC (.int 0))) (fz (wLst (wCons (wC (.str "count")) (wCons (wC (.str "sum")) (wCons (wC (.str "heads")) wNil)))))))) (sRet (fz (fLc (wSeq (wVar 2)) (.nm 9) wYes (w1 pTupA (wCall w__law_cells (wAName 0 (wAName 9 (wAName 3 wANil))))) [9]))) sNext) (sSeq (sUnpDL 4 5 (wOp pIx (wVar 1) (wNeg (wC (.int 1)))) (wLst wNil)) (sSeq (sSet (fz (w1L pSortSetT (fz (fLc (wSeq (wVar 2)) (.nm 9) wYes (w1 pTupA (wCall w__law_cells (wAName 0 (wAName 9 (wACons (wOp pIx (wVar 4) (wC (.int 1))) wANil))))) [9])))) 6) (sSeq (sFor (wSeq (wVal 6)) (.nm 7) (sSeq (sSet (fz (fLc (wSeq (wVar 2)) (.nm 9) (wTt (wOp pEq2 (w1 pTupA (wCall w__law_cells (wAName 0 (wAName 9 (wACons (wOp pIx (wVar 4) (wC (.int 1))) wANil))))) (wVar 7))) (wVal 9) [9])) 8) (sIf (wTt (wOp pEq2 (wOp pIx (wVar 4) (wC (.int 0))) (wC (.str "heads")))) (sApp 5 (w1 pTupA (wCall w__law_cells (wAName 0 (wACons (wOp pIx (wVar 8) (wC (.int 0))) (wAName 3 wANil)))))) (sIf (wTt (wOp pEq2 (wOp pIx (wVar 4) (wC (.int 0))) (wC (.str "count")))) (sApp 5 (wOp pAdd (wVar 7) (wTup (wCons (w1 pLen (wVar 8)) wNil)))) (sApp 5 (wOp pAdd (wVar 7) (wTup (wCons (w1 pSum (fz (fLc (wSeq (wVar 8)) (.nm 9) wYes (wOp pIx (wCall w__law_cells (wAName 0 (wAName 9 (wACons (wOp pIx (wVar 4) (wC (.int 2))) wANil)))) (wC (.int 0))) [9]))) wNil)))))))) (sRetN 5))))) [some (.d (schD K rules keys)), some (.d (.tuple ((sts ++ finS f).map stpD))), some (.d (.list (G.map tI))), some (.d (.str (tx l))), none, none, none, none, none, none] n (fun _ m => Q .none m) Q noEnd noEnd := fun g w r out er hw gl gne row eo => by
    have lg := gl.length_le
    have ws : ∀ w ∈ (["count", "sum", "heads"] : List Str), isOf ["count", "sum", "heads"] (.str w) = true := by decide +kernel
    walk_at "s"
    (repeat walk_at "s")
    refine ⟨Nat.zero_le _, _, eq_tup0 _, ?_⟩
    rw [show isT0 (.tuple ((sts ++ finS f).map stpD)) = false by rw [er]; cases sts <;> rfl]
    walk_at "r"
    walk_at "f"
    (repeat walk_at "s")
    refine ⟨1, rfl, ?_⟩
    refine ⟨_, (congrArg (fun l => eIx (.tuple l) (.int (-1))) er).trans (ix_snocT _ _), ?_⟩
    (repeat walk_at "s")
    refine ⟨_, ix_t0 _ _, ?_⟩
    (repeat walk_at "s")
    refine ⟨by show 3 ≤ sizeLine; decide, ?_⟩
    refine ⟨_, in_lst ["count", "sum", "heads"] _, ?_⟩
    rw [ws w hw]
    walk_at "r"
    walk_at "f"
    walk_at "s"
    walk_at "s"
    refine n_unpDL ?_
    (repeat walk_at "s")
    refine ⟨1, rfl, ?_⟩
    refine ⟨_, (congrArg (fun l => eIx (.tuple l) (.int (-1))) er).trans (ix_snocT _ _), ?_⟩
    (repeat walk_at "s")
    refine ⟨Nat.zero_le _, ?_⟩
    walk_at "s"
    walk_at "s"
    walk_at "s"
    refine m_sortSetT ?_
    walk_at "s"
    refine m_lcM G tI (fun r => tI (prj K g r)) ?_
    (repeat walk_at "s")
    refine ⟨_, rfl, rfl, by rw [sizeLine_eq]; omega, fun r hr => ⟨_, rfl, fun m => ?_⟩, ?_⟩
    · (repeat walk_at "s")
      refine ⟨_, ix_t1 _ _ _, ?_⟩
      (repeat walk_at "s")
      refine cells_run (part := g) hK (hG.len r hr) (fun c hc => lK.subset (gl.subset hc)) (by omega) ?_
      exact ⟨_, rfl, rfl, rfl⟩
    refine ⟨(G.map (prj K g)).map inK, ?_, by rw [List.length_map, List.length_map]; omega, fun ms hm => ?_, fun k hk => ?_, fun ms hms => ?_⟩
    · rw [List.map_map, List.map_map]
      exact congrArg PyData.list (List.map_congr_left fun r _ => (tK_in (prj K g r)).symm)
    · have e1 : ms.map tK = (ms.map outK).map fun v => tI v := by
        rw [List.map_map]
        refine List.map_congr_left fun k hk => ?_
        obtain ⟨v, _, rfl⟩ := List.mem_map.mp (hm k hk)
        show tK (inK v) = tI (outK (inK v))
        rw [tK_in, out_in]
      rw [e1]
      refine ⟨alike_ti (id : Row → Row) _, sortable_ti (id : Row → Row) _ fun b hb e => ?_⟩
      obtain ⟨k, hk, rfl⟩ := List.mem_map.mp hb
      obtain ⟨v, hv, rfl⟩ := List.mem_map.mp (hm k hk)
      obtain ⟨r, _, rfl⟩ := List.mem_map.mp hv
      rw [show id (outK (inK (prj K g r))) = prj K g r from out_in _] at e
      exact gne (List.map_eq_nil_iff.mp e)
    · obtain ⟨v, _, rfl⟩ := List.mem_map.mp hk
      rw [tK_in]
      have := depth_ti v
      omega
    rw [keys_srt hms]
    have lks := keysS_len (K := K) (g := g) (G := G)
    walk_at "s"
    refine n_for ?_
    (repeat walk_at "s")
    refine ⟨_, rfl, fun rest e m => m = n ∧ ∃ (pre post : List (List Int)) (x7 x8 : Option Sl), keysS K g G = pre ++ post ∧ rest = post.map tI ∧
        e = [some (.d (schD K rules keys)), some (.d (.tuple ((sts ++ finS f).map stpD))), some (.d (.list (G.map tI))), some (.d (.str (tx l))), some (.d (.tuple (.str w :: .str (tx g) :: r))), some (.l ((pre.map out).map tI)), some (.d (.list ((keysS K g G).map tI))), x7, x8, none],
      ⟨rfl, [], keysS K g G, none, none, rfl, rfl, rfl⟩, fun x rest e m hI => ?_, fun e m hI => ?_⟩
    · obtain ⟨rfl, pre, post, x7, x8, e1, e2, rfl⟩ := hI
      cases post with
      | nil => cases e2
      | cons v post =>
      rw [List.map_cons] at e2
      obtain ⟨rfl, rfl⟩ := List.cons.inj e2
      have hv : v ∈ keysS K g G := by rw [e1]; simp
      have lp : pre.length ≤ 20 := by
        have := congrArg List.length e1
        rw [List.length_append] at this
        omega
      refine ⟨_, rfl, ?_⟩
      walk_at "s"
      walk_at "s"
      walk_at "s"
      refine m_lcK G tI tI (fun r => decide (prj K g r = v)) ?_
      (repeat walk_at "s")
      refine ⟨_, rfl, rfl, by rw [sizeLine_eq]; omega, fun r hr => ⟨_, rfl, fun m => ?_, fun m => ?_⟩, ?_⟩
      · (repeat walk_at "s")
        refine ⟨_, ix_t1 _ _ _, ?_⟩
        (repeat walk_at "s")
        refine cells_run (part := g) hK (hG.len r hr) (fun c hc => lK.subset (gl.subset hc)) (by omega) ?_
        refine ⟨_, rfl, ?_⟩
        (repeat walk_at "s")
        refine ⟨_, eq_tiD (prj K g r) v, ?_⟩
        walk_at "r"
        exact ⟨rfl, rfl⟩
      · (repeat walk_at "s")
        exact ⟨rfl, rfl⟩
      refine row v hv ((pre.map out).map tI) _ _ _ _ _ (by rw [List.length_map, List.length_map, sizeLine_eq]; omega) ?_
      have e9 : ((pre ++ [v]).map out).map tI = (pre.map out).map tI ++ [tI (out v)] := by simp
      exact ⟨rfl, pre ++ [v], post, _, _, by rw [e1]; simp, rfl, by rw [e9]⟩
    · obtain ⟨rfl, pre, post, x7, x8, e1, e2, rfl⟩ := hI
      have e0 : post = [] := List.map_eq_nil_iff.mp e2.symm
      subst e0
      rw [List.append_nil] at e1
      refine n_retN (.inr ⟨_, rfl, rfl⟩) ?_
      rw [← e1, ← eo]
      exact q
  have lv : ∀ {g : List Nat}, g.Sublist l → ∀ v ∈ keysS K g G, v.length ≤ 1000 := fun gl v hv => by
    obtain ⟨r, _, rfl⟩ := List.mem_map.mp (keysS_mem.mp hv)
    rw [prj_len]
    have := gl.length_le
    omega
  have lr : ∀ {g : List Nat} {v : List Int}, (grpR K g G v).length ≤ 1000 := Nat.le_trans grpR_len (by omega)
  cases f with
  | non =>
    have er : (sts ++ finS .non).map stpD = sts.map stpD := by rw [show finS .non = [] from rfl, List.append_nil]
    have out : MS (sRet (fz (fLc (wSeq (wVar 2)) (.nm 9) wYes (w1 pTupA (wCall w__law_cells (wAName 0 (wAName 9 (wAName 3 wANil))))) [9]))) [some (.d (schD K rules keys)), some (.d (.tuple ((sts ++ finS .non).map stpD))), some (.d (.list (G.map tI))), some (.d (.str (tx l))), none, none, none, none, none, none] n (fun e m => MS (sSeq (sUnpDL 4 5 (wOp pIx (wVar 1) (wNeg (wC (.int 1)))) (wLst wNil)) (sSeq (sSet (fz (w1L pSortSetT (fz (fLc (wSeq (wVar 2)) (.nm 9) wYes (w1 pTupA (wCall w__law_cells (wAName 0 (wAName 9 (wACons (wOp pIx (wVar 4) (wC (.int 1))) wANil))))) [9])))) 6) (sSeq (sFor (wSeq (wVal 6)) (.nm 7) (sSeq (sSet (fz (fLc (wSeq (wVar 2)) (.nm 9) (wTt (wOp pEq2 (w1 pTupA (wCall w__law_cells (wAName 0 (wAName 9 (wACons (wOp pIx (wVar 4) (wC (.int 1))) wANil))))) (wVar 7))) (wVal 9) [9])) 8) (sIf (wTt (wOp pEq2 (wOp pIx (wVar 4) (wC (.int 0))) (wC (.str "heads")))) (sApp 5 (w1 pTupA (wCall w__law_cells (wAName 0 (wACons (wOp pIx (wVar 8) (wC (.int 0))) (wAName 3 wANil)))))) (sIf (wTt (wOp pEq2 (wOp pIx (wVar 4) (wC (.int 0))) (wC (.str "count")))) (sApp 5 (wOp pAdd (wVar 7) (wTup (wCons (w1 pLen (wVar 8)) wNil)))) (sApp 5 (wOp pAdd (wVar 7) (wTup (wCons (w1 pSum (fz (fLc (wSeq (wVar 8)) (.nm 9) wYes (wOp pIx (wCall w__law_cells (wAName 0 (wAName 9 (wACons (wOp pIx (wVar 4) (wC (.int 2))) wANil)))) (wC (.int 0))) [9]))) wNil)))))))) (sRetN 5)))) e m (fun _ m => Q .none m) Q noEnd noEnd) Q noEnd noEnd := by
      walk_at "s"
      walk_at "s"
      refine m_lcM G tI (fun r => tI (prj K l r)) ?_
      (repeat walk_at "s")
      refine ⟨_, rfl, rfl, by rw [sizeLine_eq]; omega, fun r hr => ⟨_, rfl, fun m => ?_⟩, ?_⟩
      · (repeat walk_at "s")
        refine cells_run (part := l) hK (hG.len r hr) (fun c hc => lK.subset hc) (by omega) ?_
        exact ⟨_, rfl, rfl, rfl⟩
      · have : G.map (fun r => tI (prj K l r)) = (endO K l .non G).map tI := by unfold endO; rw [List.map_map]; rfl
        rw [this]
        exact q
    walk_at "s"
    walk_at "s"
    (repeat walk_at "s")
    refine ⟨Nat.zero_le _, _, eq_tup0 _, ?_⟩
    walk_at "r"
    by_cases ne : sts = []
    · subst ne
      walk_at "t"
      walk_at "t"
      exact out
    · obtain ⟨w, r, ei, w0, w1, w2, w3⟩ := last_ng hs ng ne
      refine ⟨fun _ => ?_, fun z => ?_⟩
      · walk_at "t"
        exact out
      · (repeat walk_at "s")
        refine ⟨1, rfl, ?_⟩
        refine ⟨_, (congrArg (fun l => eIx (.tuple l) (.int (-1))) er).trans ei, ?_⟩
        (repeat walk_at "s")
        refine ⟨_, ix_t0 _ _, ?_⟩
        (repeat walk_at "s")
        refine ⟨by show 3 ≤ sizeLine; decide, ?_⟩
        refine ⟨_, in_lst ["count", "sum", "heads"] _, ?_⟩
        rw [w0]
        walk_at "r"
        walk_at "t"
        exact out
  | cnt g =>
    refine key g "count" [] (fun v => v ++ [((grpR K g G v).length : Int)]) (by rw [List.map_append]; rfl) (by decide) fo fn (fun v hv xs y6 m N B C lx hN => ?_) rfl
    (repeat walk_at "s"); walk_at "e"
    (repeat walk_at "s"); walk_at "e"
    walk_at "r"
    walk_at "f"
    (repeat walk_at "s"); walk_at "e"
    (repeat walk_at "s"); walk_at "e"
    walk_at "r"
    walk_at "t"
    refine n_app rfl ?_
    (repeat walk_at "s")
    refine ⟨.int ((grpR K g G v).length : Nat), by show some (PyData.int (((grpR K g G v).map tI).length : Nat)) = _; rw [List.length_map], ?_⟩
    walk_at "s"
    refine ⟨by show 1 ≤ sizeLine; decide, ?_⟩
    refine ⟨_, add_tup (by rw [List.length_map]; have := lv fo v hv; simp; omega), lx, ?_⟩
    have : PyData.tuple (v.map .int ++ [.int ((grpR K g G v).length : Nat)]) = tI (v ++ [((grpR K g G v).length : Int)]) := by unfold tI; rw [List.map_append]; rfl
    rw [this]
    exact hN
  | sum g c =>
    have hcK : c ∈ K := lK.subset fo.2
    refine key g "sum" [sg c] (fun v => v ++ [((grpR K g G v).map fun r => r.getD (K.idxOf c) 0).sum]) (by rw [List.map_append]; rfl) (by decide) fo.1 fn.1 (fun v hv xs y6 m N B C lx hN => ?_) rfl
    (repeat walk_at "s"); walk_at "e"
    (repeat walk_at "s"); walk_at "e"
    walk_at "r"
    walk_at "f"
    (repeat walk_at "s"); walk_at "e"
    (repeat walk_at "s"); walk_at "e"
    walk_at "r"
    walk_at "f"
    refine n_app rfl ?_
    (repeat walk_at "s")
    refine m_sum ?_
    walk_at "s"
    refine m_lcM (grpR K g G v) tI (fun r => .int (r.getD (K.idxOf c) 0)) ?_
    (repeat walk_at "s")
    refine ⟨_, rfl, rfl, by rw [sizeLine_eq]; have := @lr g v; omega, fun r hr => ⟨_, rfl, fun m => ?_⟩, ?_⟩
    · (repeat walk_at "s")
      refine ⟨_, ix_t2 _ _ _ _, ?_⟩
      (repeat walk_at "s")
      refine cells_run (part := [c]) hK (hG.len r (grpR_mem hr).1) (fun d hd => by rw [List.mem_singleton.mp hd]; exact hcK) (by simp) ?_
      (repeat walk_at "s")
      exact ⟨_, ix_nat (k := 0) (by simp [prj]), rfl, rfl⟩
    refine ⟨(grpR K g G v).map fun r => r.getD (K.idxOf c) 0, by rw [List.map_map]; rfl, ?_⟩
    walk_at "s"
    refine ⟨by show 1 ≤ sizeLine; decide, ?_⟩
    refine ⟨_, add_tup (by rw [List.length_map]; have := lv fo.1 v hv; simp; omega), lx, ?_⟩
    have : PyData.tuple (v.map .int ++ [.int (((grpR K g G v).map fun r => r.getD (K.idxOf c) 0).sum)]) = tI (v ++ [(((grpR K g G v).map fun r => r.getD (K.idxOf c) 0).sum)]) := by unfold tI; rw [List.map_append]; rfl
    rw [this]
    exact hN
  | hds g =>
    refine key g "heads" [] (fun v => prj K l ((grpR K g G v).headD [])) (by rw [List.map_append]; rfl) (by decide) fo fn (fun v hv xs y6 m N B C lx hN => ?_) rfl
    have gne := grpR_ne hv
    have gm : ∀ r ∈ grpR K g G v, r ∈ G := fun r hr => (grpR_mem hr).1
    (repeat walk_at "s"); walk_at "e"
    (repeat walk_at "s"); walk_at "e"
    walk_at "r"
    walk_at "t"
    refine n_app rfl ?_
    (repeat walk_at "s")
    revert hN
    generalize grpR K g G v = gr at gne gm ⊢
    cases gr with
    | nil => exact absurd rfl gne
    | cons a r =>
      intro hN
      refine ⟨_, ix_nat (k := 0) (by simp), ?_⟩
      (repeat walk_at "s")
      refine cells_run (part := l) hK (hG.len a (gm a List.mem_cons_self)) (fun c hc => lK.subset hc) (by omega) ?_
      exact ⟨_, rfl, lx, hN⟩
end
section
variable {n : Nat} {Q : PyData → Nat → Prop} {K l : List Nat} {rules : List Rule} {keys : List (List Nat)} {G : List Row}
theorem runR_run {sts : List Stp} {f : Fin} {o : List Nat} {os : List (List Nat)} {G' : List Row} (hK : ColsOk K) (ch : Chn K sts) (ls : sts.length ≤ 8) (fo : FinOk (keptR K sts) f) (fn : FinNe f) (hG : RowsOk K G) (few : G.length ≤ 20) (ho : o.Perm (List.range G.length)) (hw : Way K sts (pick G o) os G')
    (q : Q (.list ((endO K (keptR K sts) f G').map tI)) n) : MD w_run_v1 [.d (schD K rules keys), .d (.tuple ((sts ++ finS f).map stpD)), .d (.list (G.map tI)), .r ((o :: os).map ordD)] n Q := by
  have h5 := hK.few
  obtain ⟨call, hlE, _⟩ := chn_all ch hK
  have nd := cols_nodup hK
  have pG := pick_perm ho
  have lf : (finS f).length ≤ 1 := by cases f <;> simp [finS]
  refine md_def rfl rfl ?_
  unfold t_run_v1
  walk_at "s"; walk_at "s"; walk_at "s"
  refine m_lcK (sts ++ finS f) stpD stpD isSrt0 ?_
  (repeat walk_at "s")
  refine ⟨_, rfl, rfl, by rw [List.length_append, sizeLine_eq]; omega, fun s hs => ⟨_, rfl, fun m => ?_, fun m => ?_⟩, ?_⟩
  · obtain ⟨w, r, ed, eeq⟩ := kind_any (fun s h => (call s h).2.2) hs
    rw [ed]
    (repeat walk_at "s")
    refine ⟨_, ix_t0 _ _, ?_⟩
    (repeat walk_at "s")
    refine ⟨_, eeq, ?_⟩
    walk_at "r"
    exact ⟨rfl, rfl⟩
  · (repeat walk_at "s")
    exact ⟨rfl, rfl⟩
  rw [filter_fin]
  walk_at "s"
  (repeat walk_at "s"); walk_at "r"; walk_at "r"; walk_at "f"
  (repeat walk_at "s")
  refine ⟨_, rfl, ?_⟩
  (repeat walk_at "s")
  refine ⟨_, rfl, ?_⟩
  (repeat walk_at "s")
  refine ⟨_, rfl, ?_⟩
  refine ⟨_, ne2_int _ _, ?_⟩
  rw [decide_eq_true (show ((((o :: os).map ordD).length : Nat) : Int) = 1 + ((((sts.filter isSrt0).map stpD).length : Nat) : Int) by rw [← way_sorts hw, List.length_map, List.length_cons]; omega)]
  walk_at "r"
  walk_at "f"
  walk_at "s"
  (repeat walk_at "s")
  refine ⟨ordD o, ix_nat (k := 0) (by simp), ?_⟩
  (repeat walk_at "s")
  refine permuted_run ho (by omega) ?_
  (repeat walk_at "s")
  refine ⟨_, ix_t0 _ _, ?_⟩
  walk_at "s"
  walk_at "s"
  walk_at "s"
  walk_at "s"
  refine n_for ?_
  (repeat walk_at "s")
  refine ⟨_, rfl, fun rest e m => m = n ∧ ((∃ (pre post : List Stp) (os1 os2 : List (List Nat)) (Gc : List Row) (l : List Nat) (x8 : Option Sl), sts = pre ++ post ∧ rest = (post ++ finS f).map stpD ∧ os = os1 ++ os2 ∧ Way K post Gc os2 G' ∧ RowsOk K Gc ∧ Gc.length ≤ 20 ∧ l = keptR K pre ∧ Chn l post ∧ ColsOk l ∧ l.Sublist K ∧
      e = [some (.d (schD K rules keys)), some (.d (.tuple ((sts ++ finS f).map stpD))), some (.d (.list (G.map tI))), some (.r ((o :: os).map ordD)), some (.d (.list ((sts.filter isSrt0).map stpD))), some (.d (.list ((Gc.map (prj K l)).map tI))), some (.d (.str (tx l))), some (.d (.int ((1 + os1.length : Nat) : Int))), x8]) ∨
      (rest = [] ∧ ∃ (x1 x2 x3 x4 x5 x7 x8 x9 : Option Sl), e = [x1, x2, x3, x4, x5, some (.d (.list ((endO K (keptR K sts) f G').map tI))), x7, x8, x9])),
    ⟨rfl, .inl ⟨[], sts, [], os, pick G o, K, none, rfl, rfl, rfl, hw, hG.perm pG, by rw [pG.length_eq]; exact few, rfl, ch, hK, List.Sublist.refl _, by rw [map_self nd (hG.perm pG)]; rfl⟩⟩, fun x rest e m hI => ?_, fun e m hI => ?_⟩
  · obtain ⟨rfl, hI⟩ := hI
    rcases hI with ⟨pre, post, os1, os2, Gc, l, x8, e1, e2, e3, hwc, okc, lc, el, chc, hl, lK, rfl⟩ | ⟨z, _⟩
    rotate_left
    · cases z
    cases post with
    | nil =>
      -- the group
      rw [List.nil_append] at e2
      rw [List.append_nil] at e1
      subst e1
      obtain ⟨s, r0, hfs⟩ : ∃ s r0, finS f = s :: r0 := by
        cases f <;> first | exact ⟨_, _, rfl⟩ | cases e2
      have hs : s ∈ finS f := by rw [hfs]; exact List.mem_cons_self
      obtain ⟨hf1, s0, w, r, ed, hwd⟩ := fin_head hs
      rw [hf1] at e2
      obtain ⟨rfl, rfl⟩ := List.cons.inj e2
      obtain ⟨_, e5⟩ := hwc
      subst e5
      refine ⟨_, rfl, ?_⟩
      walk_at "s"; walk_at "s"; walk_at "s"; walk_at "s"; walk_at "s"; walk_at "s"
      rw [ed]
      (repeat walk_at "s")
      refine ⟨_, ix_t0 _ _, ?_⟩
      (repeat walk_at "s")
      refine ⟨_, Pu.eq_str _ _, ?_⟩
      rw [(grp_words w hwd).2.1]
      walk_at "r"
      rw [← ed]
      walk_at "f"
      walk_at "s"
      refine m_call (m_aName (s := .d (.str (tx l))) rfl (m_aName (s := .d (.list ((G'.map (prj K l)).map tI))) rfl (m_aName (s := .d (stpD s)) rfl (m_aNil ?_))))
      rw [← el] at fo q
      refine rows_grp_run hf1 fo fn hl okc (by omega) ?_
      walk_at "s"
      refine m_call (m_aName (s := .d (.str (tx l))) rfl (m_aName (s := .d (stpD s)) rfl (m_aNil ?_)))
      refine kept_fin_run hs ?_
      exact ⟨rfl, .inr ⟨rfl, _, _, _, _, _, _, _, _, by rw [← el]; rfl⟩⟩
    | cons st post =>
    rw [List.cons_append, List.map_cons] at e2
    obtain ⟨rfl, rfl⟩ := List.cons.inj e2
    obtain ⟨so, sm, sg, chn⟩ := chc
    obtain ⟨hl2, l2⟩ := sm_kept hl so sm
    have los : os.length ≤ 8 := by
      rw [way_len hw]
      exact Nat.le_trans (List.length_filter_le _ _) ls
    refine ⟨_, rfl, ?_⟩
    obtain ⟨w, r, ed, _, eeq⟩ := kind_sort sg
    walk_at "s"; walk_at "s"; walk_at "s"; walk_at "s"; walk_at "s"; walk_at "s"
    rw [ed]
    (repeat walk_at "s")
    refine ⟨_, ix_t0 _ _, ?_⟩
    (repeat walk_at "s")
    refine ⟨_, eeq, ?_⟩
    walk_at "r"
    rw [← ed]
    refine ⟨fun z => ?_, fun z => ?_⟩
    · cases st with
      | srt b p =>
        cases b with
        | true => cases z
        | false =>
        obtain ⟨o2, os', e4, hp2, asc, hw2⟩ := hwc
        subst e4
        have lt : ∀ k ∈ o2, k < Gc.length := fun k hk => List.mem_range.mp (hp2.mem_iff.mp hk)
        have okl : RowsOk l (Gc.map (prj K l)) := rows_prj okc
        walk_at "s"
        (repeat walk_at "s"); walk_at "e"
        (repeat walk_at "s")
        refine ⟨ordD o2, ?_, ?_⟩
        · refine ix_atO ?_
          rw [e3, List.getElem?_map, Nat.add_comm 1, List.getElem?_cons_succ, List.getElem?_append_right (Nat.le_refl _), Nat.sub_self]
          rfl
        (repeat walk_at "s")
        refine sorted_by_run hl okl (by rw [List.length_map]; omega) so.1 so.2 sm (by rw [List.length_map]; exact hp2) ?_ ?_
        · rw [pick_map lt]
          refine List.pairwise_map.mpr (asc.imp fun {a b} h => ?_)
          rw [prj_prj so.1, prj_prj so.1]
          exact h
        rw [pick_map lt]
        refine n_augI rfl ?_
        (repeat walk_at "s")
        refine ⟨1, rfl, ?_⟩
        walk_at "s"
        refine m_call (m_aName (s := .d (.str (tx l))) rfl (m_aName (s := .d (stpD (.srt false p))) rfl (m_aNil ?_)))
        refine kept_after_run (K0 := l) so ?_
        refine ⟨rfl, .inl ⟨pre ++ [.srt false p], post, os1 ++ [o2], os', pick Gc o2, l, some (.d (stpD (.srt false p))), by rw [e1]; simp, rfl, by rw [e3]; simp, hw2, okc.perm (pick_perm hp2), by rw [(pick_perm hp2).length_eq]; exact lc, by rw [kept_snoc, ← el]; rfl, chn, hl, lK, ?_⟩⟩
        have e5 : ((1 + os1.length : Nat) : Int) + 1 = ((1 + (os1 ++ [o2]).length : Nat) : Int) := by rw [List.length_append]; simp; omega
        rw [← e5]
        rfl
      | _ => cases z
    · have ns : isSrt0 st = false := z
      rw [way_one ns] at hwc
      walk_at "s"
      refine m_call (m_aName (s := .d (.str (tx l))) rfl (m_aName (s := .d (.list ((Gc.map (prj K l)).map tI))) rfl (m_aName (s := .d (stpD st)) rfl (m_aNil ?_))))
      refine rows_after_run hl so sm sg okc (fun c hc => lK.subset hc) (by omega) ?_
      rw [oneM_eq ns]
      walk_at "s"
      refine m_call (m_aName (s := .d (.str (tx l))) rfl (m_aName (s := .d (stpD st)) rfl (m_aNil ?_)))
      refine kept_after_run (K0 := l) so ?_
      exact ⟨rfl, .inl ⟨pre ++ [st], post, os1, os2, oneS K st Gc, keptL l st, _, by rw [e1]; simp, rfl, e3, hwc, okc.sub (one_mem st Gc), Nat.le_trans (one_len st Gc) lc, by rw [kept_snoc, ← el], chn, hl2, l2.trans lK, rfl⟩⟩
  · obtain ⟨rfl, hI⟩ := hI
    rcases hI with ⟨pre, post, os1, os2, Gc, l, x8, e1, e2, e3, hwc, okc, lc, el, chc, hl, lK, rfl⟩ | ⟨_, x1, x2, x3, x4, x5, x7, x8, x9, rfl⟩
    · have e0 : post = [] ∧ finS f = [] := by
        have := List.map_eq_nil_iff.mp e2.symm
        exact List.append_eq_nil_iff.mp this
      obtain ⟨rfl, hf0⟩ := e0
      have ef : f = .non := by cases f <;> first | rfl | cases hf0
      subst ef
      rw [List.append_nil] at e1
      subst e1
      obtain ⟨_, e5⟩ := hwc
      subst e5
      (repeat walk_at "s")
      rw [el]
      exact q
    · (repeat walk_at "s")
      exact q
end
section
variable {n : Nat} {Q : PyData → Nat → Prop} {K : List Nat} {rules : List Rule} {keys : List (List Nat)}
theorem draw_table12_run {size : Int} {most : Nat} (m8 : most ≤ 12) (hK : ColsOk K) (hR : RulesOk K rules) (hY : KeysOk K keys) (s1 : 0 < size) (s2 : size ≤ 1000) (hn : 65 ≤ n)
    (q : ∀ rows m, rows.length ≤ most → RowsOk K rows → tabB K rules keys rows = true → n ≤ m + 65 → Q (.list (rows.map tI)) m) : MD w__law_draw_table [.p, .d (schD K rules keys), .d (.int (most : Nat)), .d (.int size)] n Q := by
  have hK5 := hK.few
  refine md_def rfl rfl ?_
  unfold t__law_draw_table
  walk_at "s"
  refine n_unpLD ?_
  (repeat walk_at "s")
  refine ⟨Nat.zero_le _, ?_⟩
  (repeat walk_at "s")
  refine ⟨_, rfl, ?_⟩
  (repeat walk_at "s")
  refine ⟨_, rfl, ?_⟩
  (repeat walk_at "s")
  refine ⟨by show 5 ≤ sizeLine; decide, ?_⟩
  (repeat walk_at "s")
  refine take_nat (by decide) (by decide) (by omega) fun r1 h1 => ?_
  refine ⟨_, ix_ints (ns := [0, 2, 11, -8, -1000]) h1, ?_⟩
  have hsh := shifts_ok _ (List.getElem_mem h1)
  generalize ([0, 2, 11, -8, -1000] : List Int)[r1]'h1 = sh at hsh
  walk_at "s"
  refine n_for ?_
  (repeat walk_at "s")
  refine ⟨_, rfl, by omega, by omega, fun rest e m => ∃ (rows : List (List Int)) (x6 x7 : Option Sl), rest.length + rows.length ≤ most ∧ RowsOk K rows ∧ tabB K rules keys rows = true ∧ n ≤ m + 1 + (most - rest.length) * 5 ∧
      e = [some .p, some (.d (schD K rules keys)), some (.d (.int (most : Nat))), some (.d (.int size)), some (.l (rows.map tI)), some (.d (.int sh)), x6, x7, none, none],
    ⟨[], none, none, by rw [Int.toNat_natCast, rng_len]; exact Nat.le_refl _, ⟨by simp, by simp⟩, tabB_iff.mpr .nil, by omega, rfl⟩, fun x rest e m hI => ?_, fun e m hI => ?_⟩
  · obtain ⟨rows, x6, x7, few, ok, tb, hm, rfl⟩ := hI
    rw [List.length_cons] at few hm
    refine ⟨_, rfl, ?_⟩
    walk_at "s"; walk_at "s"; walk_at "s"; walk_at "s"
    refine m_lc ?_
    (repeat walk_at "s"); walk_at "e"
    refine ⟨_, seq_str _, by rw [List.length_map, Ls_tx, sizeLine_eq]; omega, fun rst acc m2 => ∃ (rl done : List Nat) (cells : List Int), K = done ++ rl ∧ rst = rl.map sg ∧ acc = cells.map .int ∧ cells.length = done.length ∧ (∀ x ∈ cells, okI x) ∧ m ≤ m2 + done.length,
      ⟨K, [], [], rfl, by rw [Ls_tx], rfl, rfl, by simp, by simp⟩, fun y rst acc m2 hJ => ?_, fun acc m2 hJ => ?_⟩
    · obtain ⟨rl, done, cells, e1, e2, e3, e4, e5, hm2⟩ := hJ
      cases rl with
      | nil => cases e2
      | cons c rl =>
      rw [List.map_cons] at e2
      obtain ⟨rfl, rfl⟩ := List.cons.inj e2
      have hl := congrArg List.length e1
      rw [List.length_append, List.length_cons] at hl
      refine ⟨_, rfl, ?_⟩
      walk_at "s"
      refine ⟨fun _ => ?_, fun h => Bool.noConfusion h⟩
      (repeat walk_at "s")
      refine take_run s1 (by omega) (by omega) fun r r0 r1 => ?_
      (repeat walk_at "s")
      refine ⟨_, rfl, rl, done ++ [c], cells ++ [r - sh], by rw [e1]; simp, rfl, by rw [e3]; simp, by rw [List.length_append, List.length_append, e4]; rfl, fun x hx => ?_, by rw [List.length_append]; simp; omega⟩
      rcases List.mem_append.mp hx with hx | hx
      · exact e5 x hx
      · rw [List.mem_singleton.mp hx]
        unfold okI
        omega
    · obtain ⟨rl, done, cells, e1, e2, e3, e4, e5, hm2⟩ := hJ
      have e0 : rl = [] := by cases rl with | nil => rfl | cons c r => cases e2
      subst e0
      rw [List.append_nil] at e1
      subst e3
      rw [← e1] at e4 hm2
      refine ⟨.tuple (cells.map .int), rfl, ?_⟩
      (repeat walk_at "s")
      refine m_lcM rows tI (fun o => .bool (fitsB K rules keys cells o)) ?_
      (repeat walk_at "s")
      refine ⟨_, rfl, rfl, by rw [sizeLine_eq]; omega, fun o ho => ⟨_, rfl, fun m => ?_⟩, ?_⟩
      · (repeat walk_at "s")
        exact fits_run (r := cells) hK hR hY e4 (ok.len o ho) ⟨rfl, rfl⟩
      · refine ⟨_, in_false _ true _, ?_⟩
        walk_at "r"
        refine ⟨fun h => ?_, fun h => ?_⟩
        · have h1 : (rows.all fun o => fitsB K rules keys cells o) = true := by simpa using h
          refine n_app (xs := rows.map tI) rfl ?_
          (repeat walk_at "s")
          refine ⟨by rw [List.length_map, sizeLine_eq]; omega, rows ++ [cells], _, _, by rw [List.length_append]; simp; omega, ok.snoc e4 e5, ?_, by omega, by rw [List.map_append]; rfl⟩
          refine tabB_iff.mpr (List.pairwise_append.mpr ⟨tabB_iff.mp tb, by simp, fun o ho r hr' => ?_⟩)
          have er : r = cells := by simpa using hr'
          subst er
          exact List.all_eq_true.mp h1 o ho
        · (repeat walk_at "s")
          exact ⟨rows, _, _, by omega, ok, tb, by omega, rfl⟩
  · obtain ⟨rows, x6, x7, few, ok, tb, hm, rfl⟩ := hI
    exact n_retN (.inr ⟨_, rfl, rfl⟩) (q rows m (by simpa using few) ok tb (by simp at hm; omega))
end
/-- data without dicts, not too deep -/
def Sm : Nat → PyData → Prop
  | _, .none => True
  | _, .bool _ => True
  | _, .int _ => True
  | _, .str _ => True
  | d + 1, .tuple xs => xs.length ≤ 1000 ∧ ∀ x ∈ xs, Sm d x
  | d + 1, .list xs => xs.length ≤ 1000 ∧ ∀ x ∈ xs, Sm d x
  | _, _ => False
theorem in_falseT {α : Type} (xs : List α) : eIn true (.bool false) (.list (xs.map fun _ => .bool true)) = some (.bool true) := by
  show eInL true (.bool false) (.list _) = _
  unfold eInL
  show (if _ then _ else _) = _
  rw [if_pos (by simp [dfree, PyData.depth])]
  refine congrArg (fun b => some (PyData.bool b)) ?_
  rw [List.any_map]
  have : ((fun z => PyData.eqv z (.bool false)) ∘ fun _ : α => PyData.bool true) = fun _ => false := by
    funext x
    show PyData.eqv (.bool true) (.bool false) = _
    simp [PyData.eqv]
  rw [this]
  simp
theorem zip_self : ∀ xs : List PyData, zipD xs xs = xs.map fun x => .tuple [x, x]
  | [] => rfl
  | x :: r => congrArg (PyData.tuple [x, x] :: ·) (zip_self r)
section
variable {n : Nat} {Q : PyData → Nat → Prop}
theorem law_same_bool (d : Nat) (i j : Bool) (q : Q (.bool (decide (i = j))) n) : MD (w__law_same (d + 1)) [.d (.bool i), .d (.bool j)] n Q := by
  refine md_def rfl rfl ?_
  unfold t__law_same
  (repeat walk_at "s"); walk_at "r"; walk_at "r"; walk_at "f"
  (repeat walk_at "s"); walk_at "r"; walk_at "r"; walk_at "f"
  (repeat walk_at "s"); walk_at "r"; walk_at "r"; walk_at "t"; walk_at "t"
  (repeat walk_at "s"); walk_at "r"; walk_at "r"; walk_at "t"
  (repeat walk_at "s"); walk_at "r"; walk_at "r"; walk_at "t"
  (repeat walk_at "s")
  refine ⟨_, rfl, ?_⟩
  have e : PyData.eqv (.bool i) (.bool j) = decide (i = j) := by cases i <;> cases j <;> rfl
  rw [e]
  exact q
theorem law_same_none (d : Nat) (q : Q (.bool true) n) : MD (w__law_same (d + 1)) [.d .none, .d .none] n Q := by
  refine md_def rfl rfl ?_
  unfold t__law_same
  (repeat walk_at "s"); walk_at "r"; walk_at "r"; walk_at "t"; walk_at "t"
  (repeat walk_at "s"); walk_at "r"; walk_at "r"; walk_at "t"
  (repeat walk_at "s"); walk_at "r"
  exact q
theorem law_same_str (d : Nat) (z : Str) (q : Q (.bool true) n) : MD (w__law_same (d + 1)) [.d (.str z), .d (.str z)] n Q := by
  refine md_def rfl rfl ?_
  unfold t__law_same
  (repeat walk_at "s"); walk_at "r"; walk_at "r"; walk_at "f"
  (repeat walk_at "s"); walk_at "r"; walk_at "r"; walk_at "f"
  (repeat walk_at "s"); walk_at "r"; walk_at "r"; walk_at "f"
  (repeat walk_at "s"); walk_at "r"; walk_at "r"; walk_at "f"
  (repeat walk_at "s"); walk_at "r"; walk_at "r"; walk_at "t"
  (repeat walk_at "s"); walk_at "r"; (repeat walk_at "s"); walk_at "r"; walk_at "r"; walk_at "r"; walk_at "f"
  (repeat walk_at "s"); walk_at "r"; walk_at "r"; walk_at "t"
  (repeat walk_at "s")
  refine ⟨_, eq_str _ _, ?_⟩
  rw [show isS z (.str z) = true from decide_eq_true rfl]
  exact q
theorem law_same_int (d : Nat) (z : Int) (q : Q (.bool true) n) : MD (w__law_same (d + 1)) [.d (.int z), .d (.int z)] n Q := by
  refine md_def rfl rfl ?_
  unfold t__law_same
  (repeat walk_at "s"); walk_at "r"; walk_at "r"; walk_at "f"
  (repeat walk_at "s"); walk_at "r"; walk_at "r"; walk_at "f"
  (repeat walk_at "s"); walk_at "r"; walk_at "r"; walk_at "f"
  (repeat walk_at "s"); walk_at "r"; walk_at "r"; walk_at "f"
  (repeat walk_at "s"); walk_at "r"; walk_at "r"; walk_at "t"
  (repeat walk_at "s"); walk_at "r"; (repeat walk_at "s"); walk_at "r"; walk_at "r"; walk_at "r"; walk_at "f"
  (repeat walk_at "s"); walk_at "r"; walk_at "r"; walk_at "t"
  (repeat walk_at "s")
  refine ⟨_, eq_int _ _, ?_⟩
  rw [decide_eq_true rfl]
  exact q
theorem law_same_tup (d : Nat) {xs : List PyData} (few : xs.length ≤ 1000) (each : ∀ x ∈ xs, ∀ {n : Nat} {Q : PyData → Nat → Prop}, Q (.bool true) n → MD (w__law_same d) [.d x, .d x] n Q) (q : Q (.bool true) n) : MD (w__law_same (d + 1)) [.d (.tuple xs), .d (.tuple xs)] n Q := by
  refine md_def rfl rfl ?_
  unfold t__law_same
  (repeat walk_at "s"); walk_at "r"; walk_at "r"; walk_at "f"
  (repeat walk_at "s"); walk_at "r"; walk_at "r"; walk_at "f"
  (repeat walk_at "s"); walk_at "r"; walk_at "r"; walk_at "f"
  (repeat walk_at "s"); walk_at "r"; walk_at "r"; walk_at "f"
  (repeat walk_at "s"); walk_at "r"; walk_at "r"; walk_at "f"
  (repeat walk_at "s"); walk_at "r"; (repeat walk_at "s"); walk_at "r"; walk_at "r"; walk_at "r"; walk_at "f"
  (repeat walk_at "s"); walk_at "r"; (repeat walk_at "s"); walk_at "r"; walk_at "r"; walk_at "r"; walk_at "f"
  (repeat walk_at "s"); walk_at "r"; (repeat walk_at "s"); walk_at "r"
  refine ⟨_, ne2_int _ _, ?_⟩
  rw [decide_eq_true rfl]
  walk_at "r"; walk_at "f"
  walk_at "s"
  walk_at "s"; walk_at "s"; walk_at "s"; walk_at "s"
  refine m_lcM xs (fun x => .tuple [x, x]) (fun _ => .bool true) ?_
  (repeat walk_at "s")
  refine ⟨xs, xs, .inr ⟨rfl, rfl⟩, zip_self xs, by rw [sizeLine_eq]; omega, fun x hx => ⟨_, rfl, fun m => ?_⟩, _, in_falseT xs, q⟩
  (repeat walk_at "s")
  exact each x hx ⟨rfl, rfl⟩
theorem law_same_lst (d : Nat) {xs : List PyData} (few : xs.length ≤ 1000) (each : ∀ x ∈ xs, ∀ {n : Nat} {Q : PyData → Nat → Prop}, Q (.bool true) n → MD (w__law_same d) [.d x, .d x] n Q) (q : Q (.bool true) n) : MD (w__law_same (d + 1)) [.d (.list xs), .d (.list xs)] n Q := by
  refine md_def rfl rfl ?_
  unfold t__law_same
  (repeat walk_at "s"); walk_at "r"; walk_at "r"; walk_at "f"
  (repeat walk_at "s"); walk_at "r"; walk_at "r"; walk_at "f"
  (repeat walk_at "s"); walk_at "r"; walk_at "r"; walk_at "f"
  (repeat walk_at "s"); walk_at "r"; walk_at "r"; walk_at "f"
  (repeat walk_at "s"); walk_at "r"; walk_at "r"; walk_at "f"
  (repeat walk_at "s"); walk_at "r"; (repeat walk_at "s"); walk_at "r"; walk_at "r"; walk_at "r"; walk_at "f"
  (repeat walk_at "s"); walk_at "r"; (repeat walk_at "s"); walk_at "r"; walk_at "r"; walk_at "r"; walk_at "f"
  (repeat walk_at "s"); walk_at "r"; (repeat walk_at "s"); walk_at "r"
  refine ⟨_, ne2_int _ _, ?_⟩
  rw [decide_eq_true rfl]
  walk_at "r"; walk_at "f"
  walk_at "s"
  walk_at "s"; walk_at "s"; walk_at "s"; walk_at "s"
  refine m_lcM xs (fun x => .tuple [x, x]) (fun _ => .bool true) ?_
  (repeat walk_at "s")
  refine ⟨xs, xs, .inl ⟨rfl, rfl⟩, zip_self xs, by rw [sizeLine_eq]; omega, fun x hx => ⟨_, rfl, fun m => ?_⟩, _, in_falseT xs, q⟩
  (repeat walk_at "s")
  exact each x hx ⟨rfl, rfl⟩
theorem law_same_refl : ∀ (d : Nat) {x : PyData} {n : Nat} {Q : PyData → Nat → Prop}, Sm d x → Q (.bool true) n → MD (w__law_same (d + 1)) [.d x, .d x] n Q
  | d, .none, _, _, _, q => law_same_none d q
  | d, .bool b, _, _, _, q => law_same_bool d b b (by rw [decide_eq_true rfl]; exact q)
  | d, .int i, _, _, _, q => law_same_int d i q
  | d, .str z, _, _, _, q => law_same_str d z q
  | d + 1, .tuple xs, _, _, h, q => law_same_tup (d + 1) h.1 (fun x hx => law_same_refl d (h.2 x hx)) q
  | d + 1, .list xs, _, _, h, q => law_same_lst (d + 1) h.1 (fun x hx => law_same_refl d (h.2 x hx)) q
  | 0, .tuple _, _, _, h, _ => h.elim
  | 0, .list _, _, _, h, _ => h.elim
  | 0, .dict _, _, _, h, _ => h.elim
  | _ + 1, .dict _, _, _, h, _ => h.elim
end
section
variable {n : Nat} {Q : PyData → Nat → Prop}
theorem law_same_lstR (d : Nat) {xs : List PyData} (few : xs.length ≤ 1000) (each : ∀ x ∈ xs, ∀ {n : Nat} {Q : PyData → Nat → Prop}, Q (.bool true) n → MD (w__law_same d) [.d x, .d x] n Q) (q : Q (.bool true) n) : MD (w__law_same (d + 1)) [.r xs, .d (.list xs)] n Q := by
  refine md_def rfl rfl ?_
  unfold t__law_same
  (repeat walk_at "s"); walk_at "r"; walk_at "r"; walk_at "f"
  (repeat walk_at "s"); walk_at "r"; walk_at "r"; walk_at "f"
  (repeat walk_at "s"); walk_at "r"; walk_at "r"; walk_at "f"
  (repeat walk_at "s"); walk_at "r"; walk_at "r"; walk_at "f"
  (repeat walk_at "s"); walk_at "r"; walk_at "r"; walk_at "f"
  (repeat walk_at "s"); walk_at "r"; (repeat walk_at "s"); walk_at "r"; walk_at "r"; walk_at "r"; walk_at "f"
  (repeat walk_at "s"); walk_at "r"; (repeat walk_at "s"); walk_at "r"; walk_at "r"; walk_at "r"; walk_at "f"
  (repeat walk_at "s"); walk_at "r"; (repeat walk_at "s"); walk_at "r"
  refine ⟨_, ne2_int _ _, ?_⟩
  rw [decide_eq_true rfl]
  walk_at "r"; walk_at "f"
  walk_at "s"
  walk_at "s"; walk_at "s"; walk_at "s"; walk_at "s"
  refine m_lcM xs (fun x => .tuple [x, x]) (fun _ => .bool true) ?_
  (repeat walk_at "s")
  refine ⟨xs, xs, .inl ⟨rfl, rfl⟩, zip_self xs, by rw [sizeLine_eq]; omega, fun x hx => ⟨_, rfl, fun m => ?_⟩, _, in_falseT xs, q⟩
  (repeat walk_at "s")
  exact each x hx ⟨rfl, rfl⟩
end
section
variable {n : Nat} {K : List Nat} {rules : List Rule} {keys : List (List Nat)} {N : En → Nat → Prop} {R : PyData → Nat → Prop} {B C : En → Nat → Prop}
theorem fit_sch (hK : ColsOk K) (hr : RulesOk K rules) (hk : KeysOk K keys) : Fit 1900 3 (schD K rules keys) := by
  have h5 := hK.few
  have a : ∀ x ∈ rules.map ruD, Fit 202 1 x := fun x hx => by
    obtain ⟨p, hp, rfl⟩ := List.mem_map.mp hx
    obtain ⟨h1, h2, _⟩ := hr.one p hp
    have := h1.length_le
    exact fit_pair (fit_tx (by omega) fun c hc => hK.low c (h1.subset hc)) (fit_tx (l := [p.2]) (by simp) fun d hd => by rw [List.mem_singleton] at hd; subst hd; exact hK.low _ h2)
  have b : ∀ x ∈ keys.map keD, Fit 100 0 x := fun x hx => by
    obtain ⟨p, hp, rfl⟩ := List.mem_map.mp hx
    obtain ⟨h1, _⟩ := hk.one p hp
    have := h1.length_le
    exact fit_tx (by omega) fun c hc => hK.low c (h1.subset hc)
  have a2 := hr.few
  have b2 := hk.few
  have c1 : Fit 1218 2 (.tuple (rules.map ruD)) := (Fit.tup (FitS.all a)).le (by rw [List.length_map]; omega) (Nat.le_refl _)
  have c2 : Fit 404 2 (.tuple (keys.map keD)) := (Fit.tup (FitS.all b)).le (by rw [List.length_map]; omega) (by omega)
  exact (Fit.tup (FitS.cons ((fit_tx h5 hK.low).le (Nat.le_refl _) (Nat.zero_le 2)) (FitS.cons c1 (FitS.cons c2 (FitS.nil.le (Nat.le_refl 0) (Nat.zero_le _)))))).le (by omega) (Nat.le_refl _)
end
section
variable {K : List Nat} {rules : List Rule} {keys : List (List Nat)} {G G1 G2 : List Row}
/-- rows of one table: two of them keep the rules, and are apart in each key -/
def Tab (K : List Nat) (rules : List Rule) (keys : List (List Nat)) (G : List Row) : Prop := G.Pairwise fun g h => fitsB K rules keys g h = true
theorem Tab.perm (h : Tab K rules keys G) (p : G1.Perm G) : Tab K rules keys G1 := (List.Perm.pairwise_iff (fun {a b} z => by rw [fitsB_symm]; exact z) p).mpr h
theorem Tab.sub (h : Tab K rules keys G) (s : G1.Sublist G) : Tab K rules keys G1 := h.sublist s
/-- what a step makes of rows; a sort brings them into any ascending order -/
inductive StepR (K : List Nat) : Stp → List Row → List Row → Prop
  | srt {p : List Nat} {G G' : List Row} : G'.Perm G → AscB (prj K p) G' → StepR K (.srt false p) G G'
  | one {s : Stp} {G : List Row} : isSrt0 s = false → StepR K s G (oneS K s G)
theorem StepR.tab {s : Stp} (h : StepR K s G G1) (t : Tab K rules keys G) : Tab K rules keys G1 := by
  cases h with
  | srt p _ => exact t.perm p
  | one e =>
    cases s with
    | whr c v => exact t.sub List.filter_sublist
    | srt b p => cases b with
      | true => exact t.perm (List.mergeSort_perm _ _)
      | false => cases e
    | cut b i => cases b with
      | true => exact t.sub (List.take_sublist _ _)
      | false => exact t.sub (List.drop_sublist _ _)
    | col l => exact t
    | grp w r => exact t
end
def headD : PyData → PyData
  | .tuple (a :: _) => a
  | _ => .none
abbrev N_law : List Str := ["script", "pen", "turn", "schema", "report", "rows", "seen", "due", "some", "again", "told"]
def t_law : WS := (sSeq (sFor (wRng1 (wC (.int 8))) (.nm 2)
  (sSeq (sSet (wCall w__law_draw_schema (wAName 1 (wACons (wC (.int 5)) wANil))) 3)
  (sSeq (sPar 4 5 (wCall w__law_draw_report (wAName 1 (wAName 3 (wACons (wC (.int 7)) (wACons (wC (.int 9)) wANil))))) (wCall w__law_draw_table (wAName 1 (wAName 3 (wACons (wC (.int 12)) (wACons (wOp pAdd (wC (.int 1)) (wCall w__law_take (wAName 1 (wACons (wC (.int 4)) wANil)))) wANil))))))
  (sSeq (sSet (w1 pRepr2 (wTup (wCons (wVal 3) (wCons (wVal 4) (wCons (wVal 5) wNil))))) 6)
  (sSeq (sAsg (wCall w__law_first (wAName 3 (wAName 4 (wAName 5 wANil)))) (.tp [7, 8]))
  (sSeq (sFor (wRng1 (wC (.int 2))) (.nm 9)
  (sTold w_first_script_o (wAName 3 (wAName 4 (wAName 5 wANil))) 10 (wNotT (wTru (wCall (w__law_same 8) (wAName 10 (wAName 7 wANil))))) (sRet (wC (.bool false))) (wNotT (wTru (wCall (w__law_same 8) (wACons (wCall w_run_v1 (wAName 3 (wAName 4 (wAName 5 (wAName 10 wANil))))) (wACons (wCall w__law_ended (wAName 3 (wAName 4 (wAName 8 wANil)))) wANil))))) (sRet (wC (.bool false)))))
  (sIf (wTt (wOp pNe2 (w1 pRepr2 (wTup (wCons (wVal 3) (wCons (wVal 4) (wCons (wVal 5) wNil))))) (wVar 6)))
  (sRet (wC (.bool false)))
  sNext)))))))
  (sRet (wC (.bool true))))
/-- the law's reading behind the pen -/
abbrev LawHolds : Prop := t_law { nx := fun _ _ => False, rt := fun d _ => d = .bool true } ((List.replicate N_law.length none).set 1 (some .p)) 2147483648
section
variable {n : Nat} {Q : PyData → Nat → Prop} {K : List Nat} {rules : List Rule} {keys : List (List Nat)} {T : List Row} {sts : List Stp} {f : Fin} {N : En → Nat → Prop} {R : PyData → Nat → Prop} {B C : En → Nat → Prop}
theorem firstO_one : ∀ {sts : List Stp} {G : List Row} {os os2 : List (List Nat)} {G1 G2 : List Row}, firstO K sts G os G1 → firstO K sts G os2 G2 → os2 = os ∧ G2 = G1
  | [], _, _, _, _, _, ⟨h1, h2⟩, ⟨h3, h4⟩ => ⟨h3.trans h1.symm, h4.trans h2.symm⟩
  | .srt false p :: r, _, _, _, _, _, ⟨o1, e1, h1⟩, ⟨o2, e2, h2⟩ => by
    obtain ⟨e3, e4⟩ := firstO_one h1 h2
    exact ⟨by rw [e1, e2, e3], e4⟩
  | .srt true p :: r, _, _, _, _, _, h1, h2 => firstO_one (sts := r) h1 h2
  | .whr c v :: r, _, _, _, _, _, h1, h2 => firstO_one (sts := r) h1 h2
  | .cut b i :: r, _, _, _, _, _, h1, h2 => firstO_one (sts := r) h1 h2
  | .col l :: r, _, _, _, _, _, h1, h2 => firstO_one (sts := r) h1 h2
  | .grp w a :: r, _, _, _, _, _, h1, h2 => firstO_one (sts := r) h1 h2
theorem way_each (hT : RowsOk K T) : ∀ {sts : List Stp} {G1 G2 : List Row} {os : List (List Nat)}, (∀ r ∈ G1, r ∈ T) → Way K sts G1 os G2 → ∀ o ∈ os, o.length ≤ G1.length
  | [], _, _, _, _, ⟨h, _⟩, o, ho => by rw [h] at ho; cases ho
  | .srt false p :: r, G1, _, _, sub, ⟨o1, os', e, h1, h2, h3⟩, o, ho => by
    subst e
    have pG := pick_perm h1
    rcases List.mem_cons.mp ho with e | ho
    · rw [e, h1.length_eq, List.length_range]; exact Nat.le_refl _
    · exact Nat.le_trans (way_each hT (sts := r) (fun r hr => sub r (pG.mem_iff.mp hr)) h3 o ho) (Nat.le_of_eq pG.length_eq)
  | .srt true p :: r, G1, _, _, sub, h, o, ho => Nat.le_trans (way_each hT (sts := r) (fun r hr => sub r (one_mem (K := K) (.srt true p) G1 r hr)) h o ho) (one_len (K := K) (.srt true p) G1)
  | .whr c v :: r, G1, _, _, sub, h, o, ho => Nat.le_trans (way_each hT (sts := r) (fun r hr => sub r (one_mem (K := K) (.whr c v) G1 r hr)) h o ho) (one_len (K := K) (.whr c v) G1)
  | .cut b i :: r, G1, _, _, sub, h, o, ho => Nat.le_trans (way_each hT (sts := r) (fun r hr => sub r (one_mem (K := K) (.cut b i) G1 r hr)) h o ho) (one_len (K := K) (.cut b i) G1)
  | .col l :: r, G1, _, _, sub, h, o, ho => way_each hT (sts := r) sub h o ho
  | .grp w a :: r, G1, _, _, sub, h, o, ho => way_each hT (sts := r) sub h o ho
theorem fit_tab (hK : ColsOk K) (hT : RowsOk K T) (l : T.length ≤ 12) : Fit 200 2 (.list (T.map tI)) := by
  have h5 := hK.few
  refine (Fit.lst (FitS.all (B := 10) (D := 1) fun x hx => ?_)).le (by rw [List.length_map]; omega) (Nat.le_refl _)
  obtain ⟨r, hr, rfl⟩ := List.mem_map.mp hx
  refine (Fit.tup (FitS.all (B := 0) (D := 0) fun y hy => ?_)).le (by rw [List.length_map, hT.len r hr]; omega) (Nat.le_refl _)
  obtain ⟨i, hi, rfl⟩ := List.mem_map.mp hy
  have := hT.small r hr i hi
  unfold okI at this
  exact Fit.int (by omega)
theorem sm_rows (G : List Row) (h : G.length ≤ 1000) (hl : ∀ r ∈ G, r.length ≤ 1000) : Sm 7 (.list (G.map tI)) := by
  refine ⟨by rw [List.length_map]; exact h, fun x hx => ?_⟩
  obtain ⟨r, hr, rfl⟩ := List.mem_map.mp hx
  refine ⟨by rw [List.length_map]; exact hl r hr, fun y hy => ?_⟩
  obtain ⟨i, _, rfl⟩ := List.mem_map.mp hy
  trivial
theorem sm_ord {o : List Nat} (h : o.length ≤ 1000) : Sm 6 (ordD o) := by
  refine ⟨by rw [List.length_map]; exact h, fun y hy => ?_⟩
  obtain ⟨i, _, rfl⟩ := List.mem_map.mp hy
  trivial
theorem end_wide {l : List Nat} {G : List Row} (hl : l.length ≤ 5) (hG : ∀ r ∈ G, r.length ≤ 5) (f : Fin) (fo : FinOk l f) : ∀ r ∈ endO K l f G, r.length ≤ 1000 := fun r hr => by
  have kl : ∀ {g : List Nat}, g.Sublist l → ∀ v ∈ keysS K g G, v.length ≤ 5 := fun gl v hv => by
    obtain ⟨r, _, rfl⟩ := List.mem_map.mp (keysS_mem.mp hv)
    rw [prj_len]
    have := gl.length_le
    omega
  cases f with
  | non =>
    obtain ⟨x, _, rfl⟩ := List.mem_map.mp hr
    rw [prj_len]; omega
  | cnt g =>
    obtain ⟨v, hv, rfl⟩ := List.mem_map.mp hr
    have := kl fo v hv
    rw [List.length_append]; simp; omega
  | sum g c =>
    obtain ⟨v, hv, rfl⟩ := List.mem_map.mp hr
    have := kl fo.1 v hv
    rw [List.length_append]; simp; omega
  | hds g =>
    obtain ⟨v, _, rfl⟩ := List.mem_map.mp hr
    rw [prj_len]; omega
theorem law_run (hn : 2147480000 ≤ n) : MS t_law ((List.replicate N_law.length none).set 1 (some .p)) n (fun _ _ => False) (fun d _ => d = .bool true) noEnd noEnd := by
  unfold t_law
  walk_at "s"
  refine n_for ?_
  (repeat walk_at "s")
  refine ⟨8, rfl, by decide, by decide, fun rest e m => ∃ (x2 x3 x4 x5 x6 x7 x8 x9 x10 : Option Sl), rest.length ≤ 8 ∧ n ≤ m + (8 - rest.length) * 4000 ∧ e = [none, some .p, x2, x3, x4, x5, x6, x7, x8, x9, x10],
    ⟨none, none, none, none, none, none, none, none, none, by decide, by omega, rfl⟩, fun x rest e m hI => ?_, fun e m hI => ?_⟩
  case refine_2 =>
    obtain ⟨x2, x3, x4, x5, x6, x7, x8, x9, x10, _, _, rfl⟩ := hI
    (repeat walk_at "s")
    rfl
  obtain ⟨x2, x3, x4, x5, x6, x7, x8, x9, x10, hl, hm, rfl⟩ := hI
  rw [List.length_cons] at hl hm
  refine ⟨_, rfl, ?_⟩
  walk_at "s"
  (repeat walk_at "s")
  refine draw_schema_run (most := 5) (by decide) (by decide) (by omega) fun K rules keys m1 hK hlow _ hR hY hm1 => ?_
  have h5 := hK.few
  have fs := fit_sch hK hR hY
  (repeat walk_at "s")
  refine draw_reportN_run (most := 7) (size := 9) hK (by decide) (by decide) (by decide) (by omega) fun xs m2 hd hm2 => ?_
  obtain ⟨sts, f, rfl, ls, all, ng, fo, hl', lK, fr, ch, ff, hp⟩ := hd.ex
  (repeat walk_at "s")
  refine take_run (by decide) (by decide) (by omega) fun r r0 r1 => ?_
  (repeat walk_at "s")
  refine ⟨_, rfl, ?_⟩
  (repeat walk_at "s")
  refine draw_table12_run (most := 12) (size := 1 + r) (by decide) hK hR hY (by omega) (by omega) (by omega) fun T m3 lT hT tb hm3 => ?_
  have hs : ∀ s ∈ sts, StpOk K s := fun s h => (all s h).1
  have ft : Fit 9000 5 (.tuple [schD K rules keys, .tuple ((sts ++ finS f).map stpD), .list (T.map tI)]) :=
    (Fit.tup (FitS.cons (fs.le (Nat.le_refl _) (by omega : 3 ≤ 4)) (FitS.cons ((Fit.tup fr).le (Nat.le_refl _) (by omega)) (FitS.cons ((fit_tab hK hT lT).le (Nat.le_refl _) (by omega)) (FitS.nil.le (Nat.le_refl 0) (Nat.zero_le _)))))).le (by omega) (Nat.le_refl _)
  walk_at "s"
  walk_at "s"
  refine m_repr2 (B := 9000) (D := 5) (by omega) (by omega) ?_
  (repeat walk_at "s")
  refine ⟨by show 3 ≤ sizeLine; decide, ft, ?_⟩
  walk_at "s"
  (repeat walk_at "s")
  refine law_first_run hK hs ng (by omega) hT (by omega) fun os G1 hf1 lG1 sub1 => ?_
  refine ⟨[none, some .p, some (.d x), some (.d (schD K rules keys)), some (.d (.tuple ((sts ++ finS f).map stpD))), some (.d (.list (T.map tI))), some (.d (.str (PyData.shown (.tuple [schD K rules keys, .tuple ((sts ++ finS f).map stpD), .list (T.map tI)])))), some (.d (.list ((List.range T.length :: os).map ordD))), some (.d (.list (G1.map tI))), x9, x10], rfl, ?_⟩
  have pr : (List.range T.length).Perm (List.range T.length) := List.Perm.refl _
  have epr : pick T (List.range T.length) = T := by
    have := rngV (V := T) id
    unfold pick
    simpa using this
  have hw1 : Way K sts (pick T (List.range T.length)) os G1 := by rw [epr]; exact first_way hf1
  have okG : RowsOk K G1 := hT.sub sub1
  have los : os.length ≤ 7 := by
    rw [way_len hw1]
    exact Nat.le_trans (List.length_filter_le _ _) (by omega)
  have sml : ∀ (o : List Nat), o ∈ List.range T.length :: os → o.length ≤ 1000 := fun o ho => by
    rcases List.mem_cons.mp ho with e | ho
    · rw [e, List.length_range]; omega
    · have := way_each hT (fun r hr => by rw [epr] at hr; exact hr) hw1 o ho
      rw [epr] at this
      omega
  have smE : Sm 7 (.list ((endO K (keptR K sts) f G1).map tI)) := by
    have h6 := hl'.few
    refine sm_rows _ (Nat.le_trans end_len (by omega)) (end_wide (by omega) (fun r hr => by rw [okG.len r hr]; exact h5) f fo)
  walk_at "s"
  refine n_for ?_
  (repeat walk_at "s")
  refine ⟨2, rfl, by decide, by decide, fun rest' e m' => ∃ (x9 : Option Sl), m' = m3 ∧ (∃ x10, e = [none, some .p, some (.d x), some (.d (schD K rules keys)), some (.d (.tuple ((sts ++ finS f).map stpD))), some (.d (.list (T.map tI))), some (.d (.str (PyData.shown (.tuple [schD K rules keys, .tuple ((sts ++ finS f).map stpD), .list (T.map tI)])))), some (.d (.list ((List.range T.length :: os).map ordD))), some (.d (.list (G1.map tI))), x9, x10]),
    ⟨x9, rfl, x10, rfl⟩, fun y rest' e m' hI => ?_, fun e m' hI => ?_⟩
  · obtain ⟨x9, rfl, x10, rfl⟩ := hI
    refine ⟨_, rfl, ?_⟩
    refine n_told (by show 10 < 11; decide) ?_
    (repeat walk_at "s")
    refine firstO_run hK ch (by omega) fo ff.ne hT (by omega) fun os2 G2 hf2 => ?_
    obtain ⟨rfl, rfl⟩ := firstO_one hf1 hf2
    (repeat walk_at "s")
    refine law_same_lstR 7 (by rw [List.length_map, List.length_cons]; omega) (fun x hx {n} {Q} q => ?_) ?_
    · obtain ⟨o, ho, rfl⟩ := List.mem_map.mp hx
      exact law_same_refl 6 (sm_ord (sml o ho)) q
    walk_at "r"
    refine ⟨rfl, ?_⟩
    (repeat walk_at "s")
    refine runR_run hK ch (by omega) fo ff.ne hT (by omega) pr hw1 ?_
    (repeat walk_at "s")
    refine ended_run hK hs ng rfl fo ff.ne hl' lK okG (by omega) ?_
    (repeat walk_at "s")
    refine law_same_refl 7 smE ?_
    walk_at "r"
    refine ⟨rfl, ⟨_, _, rfl, by rw [List.length_map, List.length_range, sizeLine_eq]; omega, by rw [List.length_map, List.length_cons, sizeLine_eq]; omega⟩, ?_⟩
    exact ⟨_, rfl, _, rfl⟩
  · obtain ⟨x9, rfl, x10, rfl⟩ := hI
    (repeat walk_at "s")
    refine m_repr2 (B := 9000) (D := 5) (by omega) (by omega) ?_
    (repeat walk_at "s")
    refine ⟨by show 3 ≤ sizeLine; decide, ft, ?_⟩
    (repeat walk_at "s")
    refine ⟨_, ne2_str _ _, ?_⟩
    rw [decide_eq_true rfl]
    walk_at "r"
    walk_at "f"
    (repeat walk_at "s")
    exact ⟨_, _, _, _, _, _, _, _, _, by omega, by omega, rfl⟩
end
theorem holds : LawHolds := law_run (n := 2147483648) (by decide) { nx := fun _ _ => False, rt := fun d _ => d = .bool true } 2147483648 (Nat.le_refl _) (fun _ _ _ h _ => h) (fun _ _ _ h _ => h) (fun _ _ _ h _ => h.elim) (fun _ _ _ h _ => h.elim)
end Lw
namespace Lw
open PySem PySem.Spec PyProof.Rows L2 Pu
abbrev N__law_spread : List Str := ["cell", "at", "primes", "one", "two", "three"]
theorem sc__law_spread : FnScope N__law_spread ["cell", "at"] (defScope s__law_spread) := ⟨rfl, rfl, rfl, by decide +kernel, rfl, by decide +kernel, by decide +kernel⟩
abbrev N__law_subset : List Str := ["pen", "columns", "column"]
theorem sc__law_subset : FnScope N__law_subset ["pen", "columns"] (defScope s__law_subset) := ⟨rfl, rfl, rfl, by decide +kernel, rfl, by decide +kernel, by decide +kernel⟩
abbrev N__law_draw_schema : List Str := ["pen", "most", "letters", "columns", "rules", "keys", "again", "right", "left", "one", "k"]
theorem sc__law_draw_schema : FnScope N__law_draw_schema ["pen", "most"] (defScope s__law_draw_schema) := ⟨rfl, rfl, rfl, by decide +kernel, rfl, by decide +kernel, by decide +kernel⟩
abbrev N__law_cells : List Str := ["schema", "row", "columns", "column"]
theorem sc__law_cells : FnScope N__law_cells ["schema", "row", "columns"] (defScope s__law_cells) := ⟨rfl, rfl, rfl, by decide +kernel, rfl, by decide +kernel, by decide +kernel⟩
abbrev N__law_one_way : List Str := ["schema", "rows", "step", "row"]
theorem sc__law_one_way : FnScope N__law_one_way ["schema", "rows", "step"] (defScope s__law_one_way) := ⟨rfl, rfl, rfl, by decide +kernel, rfl, by decide +kernel, by decide +kernel⟩
abbrev N__law_first : List Str := ["schema", "report", "rows", "found", "some", "step", "order", "k"]
theorem sc__law_first : FnScope N__law_first ["schema", "report", "rows"] (defScope s__law_first) := ⟨rfl, rfl, rfl, by decide +kernel, rfl, by decide +kernel, by decide +kernel⟩
abbrev N__law_mixed : List Str := ["pen", "columns", "found", "column", "spot"]
theorem sc__law_mixed : FnScope N__law_mixed ["pen", "columns"] (defScope s__law_mixed) := ⟨rfl, rfl, rfl, by decide +kernel, rfl, by decide +kernel, by decide +kernel⟩
abbrev N__law_draw_step : List Str := ["pen", "kept", "is_behind", "size", "way", "some"]
theorem sc__law_draw_step : FnScope N__law_draw_step ["pen", "kept", "is_behind", "size"] (defScope s__law_draw_step) := ⟨rfl, rfl, rfl, by decide +kernel, rfl, by decide +kernel, by decide +kernel⟩
abbrev N__law_draw_report : List Str := ["pen", "schema", "most", "size", "kept", "steps", "early", "k", "step", "way", "group", "rest", "column"]
theorem sc__law_draw_report : FnScope N__law_draw_report ["pen", "schema", "most", "size"] (defScope s__law_draw_report) := ⟨rfl, rfl, rfl, by decide +kernel, rfl, by decide +kernel, by decide +kernel⟩
abbrev N__law_fits : List Str := ["schema", "row", "other", "left", "right", "one"]
theorem sc__law_fits : FnScope N__law_fits ["schema", "row", "other"] (defScope s__law_fits) := ⟨rfl, rfl, rfl, by decide +kernel, rfl, by decide +kernel, by decide +kernel⟩
abbrev N__law_draw_table : List Str := ["pen", "schema", "most", "size", "rows", "shift", "again", "row", "column", "other"]
theorem sc__law_draw_table : FnScope N__law_draw_table ["pen", "schema", "most", "size"] (defScope s__law_draw_table) := ⟨rfl, rfl, rfl, by decide +kernel, rfl, by decide +kernel, by decide +kernel⟩
abbrev N_projected : List Str := ["columns", "part", "rows", "places", "column", "row", "place"]
theorem sc_projected : FnScope N_projected ["columns", "part", "rows"] (defScope s_projected) := ⟨rfl, rfl, rfl, by decide +kernel, rfl, by decide +kernel, by decide +kernel⟩
abbrev N__group_row : List Str := ["kept", "step", "values", "rows", "place", "row"]
theorem sc__group_row : FnScope N__group_row ["kept", "step", "values", "rows"] (defScope s__group_row) := ⟨rfl, rfl, rfl, by decide +kernel, rfl, by decide +kernel, by decide +kernel⟩
abbrev N__grouped : List Str := ["kept", "rows", "step", "groups", "values", "row", "group"]
theorem sc__grouped : FnScope N__grouped ["kept", "rows", "step"] (defScope s__grouped) := ⟨rfl, rfl, rfl, by decide +kernel, rfl, by decide +kernel, by decide +kernel⟩
abbrev N_stable_permutation : List Str := ["kept", "rows", "columns", "values", "index"]
theorem sc_stable_permutation : FnScope N_stable_permutation ["kept", "rows", "columns"] (defScope s_stable_permutation) := ⟨rfl, rfl, rfl, by decide +kernel, rfl, by decide +kernel, by decide +kernel⟩
abbrev N_rows_after : List Str := ["kept", "rows", "step", "kind", "place", "index", "row"]
theorem sc_rows_after : FnScope N_rows_after ["kept", "rows", "step"] (defScope s_rows_after) := ⟨rfl, rfl, rfl, by decide +kernel, rfl, by decide +kernel, by decide +kernel⟩
abbrev N_kept_after : List Str := ["kept", "step"]
theorem sc_kept_after : FnScope N_kept_after ["kept", "step"] (defScope s_kept_after) := ⟨rfl, rfl, rfl, by decide +kernel, rfl, by decide +kernel, by decide +kernel⟩
abbrev N_first_script : List Str := ["schema", "report", "table", "script", "rows", "kept", "step"]
theorem sc_first_script : FnScope N_first_script ["schema", "report", "table"] (defScope s_first_script) := ⟨rfl, rfl, rfl, by decide +kernel, rfl, by decide +kernel, by decide +kernel⟩
abbrev N__law_same : List Str := ["found", "due", "one", "other"]
theorem sc__law_same : FnScope N__law_same ["found", "due"] (defScope s__law_same) := ⟨rfl, rfl, rfl, by decide +kernel, rfl, by decide +kernel, by decide +kernel⟩
abbrev N_is_plain_integer : List Str := ["value"]
theorem sc_is_plain_integer : FnScope N_is_plain_integer ["value"] (defScope s_is_plain_integer) := ⟨rfl, rfl, rfl, by decide +kernel, rfl, by decide +kernel, by decide +kernel⟩
abbrev N_is_permutation : List Str := ["count", "value", "index"]
theorem sc_is_permutation : FnScope N_is_permutation ["count", "value"] (defScope s_is_permutation) := ⟨rfl, rfl, rfl, by decide +kernel, rfl, by decide +kernel, by decide +kernel⟩
abbrev N__permuted : List Str := ["rows", "value", "index"]
theorem sc__permuted : FnScope N__permuted ["rows", "value"] (defScope s__permuted) := ⟨rfl, rfl, rfl, by decide +kernel, rfl, by decide +kernel, by decide +kernel⟩
abbrev N__sorted_by_script : List Str := ["kept", "rows", "columns", "value", "taken", "values"]
theorem sc__sorted_by_script : FnScope N__sorted_by_script ["kept", "rows", "columns", "value"] (defScope s__sorted_by_script) := ⟨rfl, rfl, rfl, by decide +kernel, rfl, by decide +kernel, by decide +kernel⟩
abbrev N_run : List Str := ["schema", "report", "table", "script", "sorts", "rows", "kept", "used", "step"]
theorem sc_run : FnScope N_run ["schema", "report", "table", "script"] (defScope s_run) := ⟨rfl, rfl, rfl, by decide +kernel, rfl, by decide +kernel, by decide +kernel⟩
abbrev N__law_kept : List Str := ["schema", "report", "kept", "step"]
theorem sc__law_kept : FnScope N__law_kept ["schema", "report"] (defScope s__law_kept) := ⟨rfl, rfl, rfl, by decide +kernel, rfl, by decide +kernel, by decide +kernel⟩
abbrev N__law_ended : List Str := ["schema", "report", "rows", "kept", "step", "found", "some", "cells", "group", "row"]
theorem sc__law_ended : FnScope N__law_ended ["schema", "report", "rows"] (defScope s__law_ended) := ⟨rfl, rfl, rfl, by decide +kernel, rfl, by decide +kernel, by decide +kernel⟩
theorem sc_law : FnScope N_law ["script"] (defScope s_law) := ⟨rfl, rfl, rfl, by decide +kernel, rfl, by decide +kernel, by decide +kernel⟩
/-- what the top has left -/
structure Txt (P : Program) (w : World) (base : Heap) (K : PySem.W.Frag) (mg : Str → Option Value) where
  a__law_open : Addr
  d__law_open : FuncData
  F__law_open : Fun K "_law_open" "_law_open" s__law_open a__law_open d__law_open
  g__law_open : mg "_law_open" = some (.ref a__law_open)
  a__law_spread : Addr
  d__law_spread : FuncData
  F__law_spread : Fun K "_law_spread" "_law_spread" s__law_spread a__law_spread d__law_spread
  g__law_spread : mg "_law_spread" = some (.ref a__law_spread)
  a__law_take : Addr
  d__law_take : FuncData
  F__law_take : Fun K "_law_take" "_law_take" s__law_take a__law_take d__law_take
  g__law_take : mg "_law_take" = some (.ref a__law_take)
  a__law_subset : Addr
  d__law_subset : FuncData
  F__law_subset : Fun K "_law_subset" "_law_subset" s__law_subset a__law_subset d__law_subset
  g__law_subset : mg "_law_subset" = some (.ref a__law_subset)
  a__law_draw_schema : Addr
  d__law_draw_schema : FuncData
  F__law_draw_schema : Fun K "_law_draw_schema" "_law_draw_schema" s__law_draw_schema a__law_draw_schema d__law_draw_schema
  g__law_draw_schema : mg "_law_draw_schema" = some (.ref a__law_draw_schema)
  a__law_cells : Addr
  d__law_cells : FuncData
  F__law_cells : Fun K "_law_cells" "_law_cells" s__law_cells a__law_cells d__law_cells
  g__law_cells : mg "_law_cells" = some (.ref a__law_cells)
  a__law_one_way : Addr
  d__law_one_way : FuncData
  F__law_one_way : Fun K "_law_one_way" "_law_one_way" s__law_one_way a__law_one_way d__law_one_way
  g__law_one_way : mg "_law_one_way" = some (.ref a__law_one_way)
  a__law_first : Addr
  d__law_first : FuncData
  F__law_first : Fun K "_law_first" "_law_first" s__law_first a__law_first d__law_first
  g__law_first : mg "_law_first" = some (.ref a__law_first)
  a__law_mixed : Addr
  d__law_mixed : FuncData
  F__law_mixed : Fun K "_law_mixed" "_law_mixed" s__law_mixed a__law_mixed d__law_mixed
  g__law_mixed : mg "_law_mixed" = some (.ref a__law_mixed)
  a__law_draw_step : Addr
  d__law_draw_step : FuncData
  F__law_draw_step : Fun K "_law_draw_step" "_law_draw_step" s__law_draw_step a__law_draw_step d__law_draw_step
  g__law_draw_step : mg "_law_draw_step" = some (.ref a__law_draw_step)
  a__law_draw_report : Addr
  d__law_draw_report : FuncData
  F__law_draw_report : Fun K "_law_draw_report" "_law_draw_report" s__law_draw_report a__law_draw_report d__law_draw_report
  g__law_draw_report : mg "_law_draw_report" = some (.ref a__law_draw_report)
  a__law_fits : Addr
  d__law_fits : FuncData
  F__law_fits : Fun K "_law_fits" "_law_fits" s__law_fits a__law_fits d__law_fits
  g__law_fits : mg "_law_fits" = some (.ref a__law_fits)
  a__law_draw_table : Addr
  d__law_draw_table : FuncData
  F__law_draw_table : Fun K "_law_draw_table" "_law_draw_table" s__law_draw_table a__law_draw_table d__law_draw_table
  g__law_draw_table : mg "_law_draw_table" = some (.ref a__law_draw_table)
  a_projected : Addr
  d_projected : FuncData
  F_projected : Fun K "projected" "projected" s_projected a_projected d_projected
  g_projected : mg "projected" = some (.ref a_projected)
  a__group_row : Addr
  d__group_row : FuncData
  F__group_row : Fun K "_group_row" "_group_row" s__group_row a__group_row d__group_row
  g__group_row : mg "_group_row" = some (.ref a__group_row)
  a__grouped : Addr
  d__grouped : FuncData
  F__grouped : Fun K "_grouped" "_grouped" s__grouped a__grouped d__grouped
  g__grouped : mg "_grouped" = some (.ref a__grouped)
  a_stable_permutation : Addr
  d_stable_permutation : FuncData
  F_stable_permutation : Fun K "stable_permutation" "stable_permutation" s_stable_permutation a_stable_permutation d_stable_permutation
  g_stable_permutation : mg "stable_permutation" = some (.ref a_stable_permutation)
  a_rows_after : Addr
  d_rows_after : FuncData
  F_rows_after : Fun K "rows_after" "rows_after" s_rows_after a_rows_after d_rows_after
  g_rows_after : mg "rows_after" = some (.ref a_rows_after)
  a_kept_after : Addr
  d_kept_after : FuncData
  F_kept_after : Fun K "kept_after" "kept_after" s_kept_after a_kept_after d_kept_after
  g_kept_after : mg "kept_after" = some (.ref a_kept_after)
  a_first_script : Addr
  d_first_script : FuncData
  F_first_script : Fun K "first_script" "first_script" s_first_script a_first_script d_first_script
  g_first_script : mg "first_script" = some (.ref a_first_script)
  a__law_same : Addr
  d__law_same : FuncData
  F__law_same : Fun K "_law_same" "_law_same" s__law_same a__law_same d__law_same
  g__law_same : mg "_law_same" = some (.ref a__law_same)
  a_is_plain_integer : Addr
  d_is_plain_integer : FuncData
  F_is_plain_integer : Fun K "is_plain_integer" "is_plain_integer" s_is_plain_integer a_is_plain_integer d_is_plain_integer
  g_is_plain_integer : mg "is_plain_integer" = some (.ref a_is_plain_integer)
  a_is_permutation : Addr
  d_is_permutation : FuncData
  F_is_permutation : Fun K "is_permutation" "is_permutation" s_is_permutation a_is_permutation d_is_permutation
  g_is_permutation : mg "is_permutation" = some (.ref a_is_permutation)
  a__permuted : Addr
  d__permuted : FuncData
  F__permuted : Fun K "_permuted" "_permuted" s__permuted a__permuted d__permuted
  g__permuted : mg "_permuted" = some (.ref a__permuted)
  a__sorted_by_script : Addr
  d__sorted_by_script : FuncData
  F__sorted_by_script : Fun K "_sorted_by_script" "_sorted_by_script" s__sorted_by_script a__sorted_by_script d__sorted_by_script
  g__sorted_by_script : mg "_sorted_by_script" = some (.ref a__sorted_by_script)
  a_run : Addr
  d_run : FuncData
  F_run : Fun K "run" "run" s_run a_run d_run
  g_run : mg "run" = some (.ref a_run)
  a__law_kept : Addr
  d__law_kept : FuncData
  F__law_kept : Fun K "_law_kept" "_law_kept" s__law_kept a__law_kept d__law_kept
  g__law_kept : mg "_law_kept" = some (.ref a__law_kept)
  a__law_ended : Addr
  d__law_ended : FuncData
  F__law_ended : Fun K "_law_ended" "_law_ended" s__law_ended a__law_ended d__law_ended
  g__law_ended : mg "_law_ended" = some (.ref a__law_ended)
  a_law : Addr
  d_law : FuncData
  F_law : Fun K "law" "law" s_law a_law d_law
  g_law : mg "law" = some (.ref a_law)
  n_all : mg "all" = none
  n_bool : mg "bool" = none
  n_enumerate : mg "enumerate" = none
  n_int : mg "int" = none
  n_isinstance : mg "isinstance" = none
  n_len : mg "len" = none
  n_list : mg "list" = none
  n_range : mg "range" = none
  n_repr : mg "repr" = none
  n_set : mg "set" = none
  n_sorted : mg "sorted" = none
  n_str : mg "str" = none
  n_sum : mg "sum" = none
  n_tuple : mg "tuple" = none
  n_zip : mg "zip" = none
  a_SORTING : Addr
  k_SORTING : Cst mg "SORTING" (.ref a_SORTING)
  r_SORTING : ∀ F : Hp, RV K F (.ref a_SORTING) d_SORTING
  c__law_one_way : Addr
  P__law_one_way : Addr
  B__law_one_way : LamX.TabB base mg c__law_one_way P__law_one_way
  h__law_one_way : d__law_one_way.code = .ref c__law_one_way
  m__law_one_way : (P__law_one_way, ("_law_one_way.<locals>.<lambda>" : Str)) ∈ tabF K
  u__law_one_way : ∀ p ∈ tabF K, p.1 = P__law_one_way → p.2 = "_law_one_way.<locals>.<lambda>"
  c__law_first : Addr
  P__law_first : Addr
  B__law_first : LamX.TabB base mg c__law_first P__law_first
  h__law_first : d__law_first.code = .ref c__law_first
  m__law_first : (P__law_first, ("_law_first.<locals>.<lambda>" : Str)) ∈ tabF K
  u__law_first : ∀ p ∈ tabF K, p.1 = P__law_first → p.2 = "_law_first.<locals>.<lambda>"
  c_stable_permutation : Addr
  P_stable_permutation : Addr
  B_stable_permutation : LamX.TabB base mg c_stable_permutation P_stable_permutation
  h_stable_permutation : d_stable_permutation.code = .ref c_stable_permutation
  m_stable_permutation : (P_stable_permutation, ("stable_permutation.<locals>.<lambda>" : Str)) ∈ tabF K
  u_stable_permutation : ∀ p ∈ tabF K, p.1 = P_stable_permutation → p.2 = "stable_permutation.<locals>.<lambda>"
section
variable {P : Program} {w : World} {K : PySem.W.Frag} {mg : Str → Option Value} {base : Heap}
theorem rv_SORTING (T : Txt P w base K mg) {F : Hp} : RV K F (.ref T.a_SORTING) d_SORTING := T.r_SORTING F
end
theorem sc__law_open : FnScope ["script", "cells", "k", "cell"] ["script"] (defScope s__law_open) := ⟨rfl, rfl, rfl, by decide +kernel, rfl, by decide +kernel, by decide +kernel⟩
section
variable {P : Program} {w : World} {K : PySem.W.Frag} {mg : Str → Option Value} {base : Heap}
theorem b__law_open (T : Txt P w base K mg) : Binds K T.d__law_open ["script"] [] := T.F__law_open.binds fun _ _ _ _ _ _ us hl => match us, hl with | [_], _ => rfl
theorem ok__law_open (T : Txt P w base K mg) : FnOk P w K mg base CX0 1 T.a__law_open T.d__law_open ["script"] (spOpen K) := by
  refine T.F__law_open.ok sc__law_open (fun vs H Q E h => ?_) (fun cdv A outer s H vs Q E hr h => ?_)
  · obtain ⟨a, ns, rfl, _⟩ := h
    rfl
  · obtain ⟨a, ns, rfl, hS, hlen, q⟩ := h
    refine ⟨_, pss_cons (ps_set (i := 1) sc__law_open.nd rfl (.inl rfl) (pe_callTy call_list_of (by rfl) T.n_list (by decide +kernel) (pa_cons (pe_slice sl_list (pv 0) po_none (po_some pe_int)) pa_nil)))
      (pss_cons (ps_for PassesOwn.never rfl (pi_enum (by rfl) T.n_enumerate (pa_cons (pe_slice sl_list (pv 0) (po_some pe_int) (po_some pe_int)) pa_nil)) (pg_tup rfl (pgs_cons (pg_name (i := 2) sc__law_open.nd rfl (.inl rfl)) (pgs_cons (pg_name (i := 3) sc__law_open.nd rfl (.inl rfl)) pgs_nil)))
        (pss_one (ps_asg (pe_op op_add (pe_ix ix_list (pv 1) (pe_op op_mod (pv 2) pe_int) (fun _ _ => rfl)) (pv 3)) (pg_sub (pv 1) (pe_op op_mod (pv 2) pe_int) set_list))))
      (pss_one (ps_ret (pe_lst (pa_cons (pv 1) (pa_cons pe_int (pa_cons pe_int pa_nil))))))), ?_⟩
    have cutI : ∀ lo hi, cutV (ns.map V.int) lo hi = ((ns.drop (HT.sIx ns.length 0 lo)).take (HT.sIx ns.length ns.length hi - HT.sIx ns.length 0 lo)).map V.int := fun lo hi => by
      unfold cutV
      rw [List.length_map, ← List.map_drop, ← List.map_take]
    -- cells = list(script[:12])
    refine ⟨.ref a, rfl, 12, rfl, a, _, rfl, hS, fun c1 n1 => ?_⟩
    refine ⟨c1, _, rfl, .inl (SqL.of upd_same), fun ca nca => ?_⟩
    have s1 : Same H (upd (upd H c1 (.lst (cutV (ns.map V.int) none (some 12)))) ca (.lst (cutV (ns.map V.int) none (some 12)))) := (same_new n1).trans (same_new nca)
    have hca : H ca = none := (same_new n1).free nca
    -- script[12:63]
    refine ⟨.ref a, rfl, 12, rfl, 63, rfl, a, _, rfl, s1.seq hS, fun c2 n2 => ?_⟩
    have n2' : H c2 = none := s1.free n2
    have s2 : Same H (upd (upd (upd H c1 (.lst (cutV (ns.map V.int) none (some 12)))) ca (.lst (cutV (ns.map V.int) none (some 12)))) c2 (.lst (cutV (ns.map V.int) (some 12) (some 63)))) := s1.trans (same_new n2)
    have ne2 : ca ≠ c2 := fun z => by rw [← z, upd_same] at n2; cases n2
    rw [cutI, cutI] at *
    generalize hA : (ns.drop (HT.sIx ns.length 0 none)).take (HT.sIx ns.length ns.length (some 12) - HT.sIx ns.length 0 none) = A at *
    generalize hB : (ns.drop (HT.sIx ns.length 0 (some 12))).take (HT.sIx ns.length ns.length (some 63) - HT.sIx ns.length 0 (some 12)) = B at *
    have lA : A.length = min 12 ns.length := by
      rw [← hA, HT.sIx_none, show HT.sIx ns.length ns.length (some 12) = min 12 ns.length from HT.sIx_nat _ _ 12, List.length_take, List.length_drop]
      omega
    have lB : B.length = ns.length - 12 := by
      rw [← hB, show HT.sIx ns.length 0 (some 12) = min 12 ns.length from HT.sIx_nat _ _ 12, show HT.sIx ns.length ns.length (some 63) = min 63 ns.length from HT.sIx_nat _ _ 63, List.length_take, List.length_drop]
      omega
    refine ⟨c2, B.map V.int, rfl, SqL.of upd_same, ?_⟩
    refine ⟨fun i m σ H3 => ∃ (y2 y3 : Option V) (cells : List Int), σ = [some (.ref a), some (.ref ca), y2, y3] ∧ i + m = B.length ∧ Same H H3 ∧ H3 c2 = some (.lst (B.map V.int)) ∧ H3 ca = some (.lst (cells.map V.int)) ∧ cells.length = A.length,
      ⟨B.length, none, none, A, rfl, by omega, s2, upd_same, by rw [upd_ne ne2, upd_same], rfl⟩, fun i m σ H3 hW => ?_⟩
    obtain ⟨y2, y3, cells, rfl, em, sm, ec2, eca, lc⟩ := hW
    by_cases hi : i < B.length
    · have g1 : (B.map V.int)[i]? = some (.int B[i]) := by rw [List.getElem?_map, List.getElem?_eq_getElem hi]; rfl
      refine .inr ⟨⟨_, _, SqL.of ec2, g1⟩, fun σ' H' => ∃ (y2 y3 : Option V) (cells : List Int), σ' = [some (.ref a), some (.ref ca), y2, y3] ∧ Same H H' ∧ H' c2 = some (.lst (B.map V.int)) ∧ H' ca = some (.lst (cells.map V.int)) ∧ cells.length = A.length, fun σ' H' hN => ?_, fun x H' hy => ?_⟩
      · obtain ⟨z2, z3, cs, e, h1, h2, h3, h4⟩ := hN
        exact ⟨m - 1, by omega, z2, z3, cs, e, by omega, h1, h2, h3, h4⟩
      · obtain ⟨Tp, x1, rfl, nT, rfl, f1⟩ := hy
        have ex1 : x1 = .int B[i] := Option.some.inj ((f1 _ (SqL.of ec2)).symm.trans g1)
        subst ex1
        have nTc : c2 ≠ Tp := ne_of_none ec2 nT
        have nTa : ca ≠ Tp := ne_of_none eca nT
        have l12 : cells.length = 12 := by rw [lc, lA]; omega
        have k0 : (0 : Int) ≤ (i : Nat) % 12 := Int.emod_nonneg _ (by decide)
        have k1 := Int.emod_lt_of_pos ((i : Nat) : Int) (show (0 : Int) < 12 by decide)
        generalize hk : ((i : Nat) : Int) % 12 = k at k0 k1
        have hl : k.toNat < cells.length := by omega
        have hat : atI (cells.map V.int) k = some (.int cells[k.toNat]) := by
          have := atI_nat (j := k.toNat) (xs := cells.map V.int) (v := .int cells[k.toNat]) (by rw [List.getElem?_map, List.getElem?_eq_getElem hl]; rfl)
          rw [Int.toNat_of_nonneg k0] at this
          exact this
        have hix : ixN (cells.map V.int).length k = some k.toNat := by
          unfold ixN
          rw [if_pos k0, if_pos (by rw [List.length_map]; omega)]
        have ecaT : (upd H3 Tp (.tup [.int (i : Nat), .int B[i]])) ca = some (.lst (cells.map V.int)) := by rw [upd_ne nTa]; exact eca
        refine ⟨Tp, _, rfl, SqT.of upd_same, rfl, _, _, rfl, _, _, rfl, rfl, ?_⟩
        refine ⟨_, rfl, _, rfl, _, 12, rfl, rfl, (show (0 : Int) < 12 by decide), ca, _, k, _, rfl, congrArg V.int hk, SqL.of ecaT, hat, _, rfl, _, _, rfl, rfl, ?_⟩
        refine ⟨_, rfl, _, rfl, _, 12, rfl, rfl, (show (0 : Int) < 12 by decide), ca, _, k, k.toNat, rfl, congrArg V.int hk, ecaT, hix, ?_⟩
        refine ⟨_, _, cells.set k.toNat (cells[k.toNat] + B[i]), rfl, fun b z e => ?_, ?_, ?_, by rw [List.length_set]; exact lc⟩
        · have nb : b ≠ ca := fun zz => by rw [zz, hca] at e; cases e
          have nb2 : b ≠ Tp := ne_of_none (sm _ _ e) nT
          rw [upd_ne nb, upd_ne nb2]; exact sm _ _ e
        · rw [upd_ne (Ne.symm ne2), upd_ne nTc]; exact ec2
        · rw [upd_same, List.map_set]
    · refine .inl ⟨⟨_, SqL.of ec2, by rw [List.length_map]; omega⟩, ?_⟩
      refine ⟨.ref ca, rfl, (by show 3 ≤ sizeLine; decide), fun pa np => ?_⟩
      have npa : ca ≠ pa := ne_of_none eca np
      exact q _ pa ca cells (sm.trans (same_new np)) (Ne.symm npa) (sm.free np) hca upd_same (by rw [upd_ne npa]; exact eca) (by rw [lc, lA]; omega)
end
section
variable {P : Program} {w : World} {K : PySem.W.Frag} {mg : Str → Option Value} {base : Heap}
theorem b__law_spread (T : Txt P w base K mg) : Binds K T.d__law_spread ["cell", "at"] [] := T.F__law_spread.binds fun _ _ _ _ _ _ us hl => match us, hl with | [_, _], _ => rfl
theorem ok__law_spread (T : Txt P w base K mg) : FnOk P w K mg base CX0 1 T.a__law_spread T.d__law_spread ["cell", "at"] (spW K w__law_spread) := ok_fn (N := N__law_spread) (k := 0) T.F__law_spread sc__law_spread fun cdv A outer s H E hr => 
  (sb_cons (s_if (t_cmp op_ge o_intB (b_var (pv 0)) (EE.eb (e_op op_pow o_int (EE.eb e_int) (EE.eb e_int))) (nomark _))
  (sb_one (s_ret (e_var (pv 0))))
  sb_nil)
  (sb_cons (s_set (i := 2) sc__law_spread.nd rfl (by first | exact Or.inl rfl | exact Or.inr rfl) (EF.ee (f_lst (d_cons e_int (d_cons e_int (d_cons e_int (d_cons e_int (d_cons e_int (d_cons e_int (d_cons e_int (d_cons e_int d_nil)))))))))))
  (sb_cons (s_set (i := 2) sc__law_spread.nd rfl (by first | exact Or.inl rfl | exact Or.inr rfl) (e_op opr_add o_add (b_var (pv 2)) (EE.eb (EF.ee (f_lst (d_cons e_int (d_cons e_int (d_cons e_int (d_cons e_int (d_cons e_int d_nil))))))))))
  (sb_cons (s_set (i := 3) sc__law_spread.nd rfl (by first | exact Or.inl rfl | exact Or.inr rfl) (e_op op_mod o_int (EE.eb (e_op op_pow o_int (EE.eb (e_op opr_add o_add (EE.eb (e_op opr_add o_add (EE.eb (e_op opr_mulT o_mulT (EE.eb (e_op op_mod o_int (b_var (pv 0)) (EE.eb e_int))) (EE.eb (e_op opr_add o_add (EE.eb (e_op opr_mulT o_mulT (EE.eb e_int) (b_var (pv 1)))) (EE.eb e_int))))) (EE.eb (e_op opr_mulT o_mulT (b_var (pv 1)) (EE.eb e_int))))) (EE.eb e_int))) (EE.eb e_int))) (EE.eb (e_ix (b_var (pv 2)) (EE.eb (e_op op_mod o_int (b_var (pv 1)) (EE.eb e_int))) (fun _ _ => rfl)))))
  (sb_cons (s_set (i := 4) sc__law_spread.nd rfl (by first | exact Or.inl rfl | exact Or.inr rfl) (e_op op_mod o_int (EE.eb (e_op op_pow o_int (EE.eb (e_op opr_add o_add (EE.eb (e_op opr_add o_add (EE.eb (e_op opr_mulT o_mulT (b_var (pv 3)) (EE.eb (e_op opr_add o_add (b_var (pv 1)) (EE.eb e_int))))) (EE.eb (e_op op_mod o_int (b_var (pv 0)) (EE.eb e_int))))) (EE.eb e_int))) (EE.eb e_int))) (EE.eb (e_ix (b_var (pv 2)) (EE.eb (e_op op_mod o_int (EE.eb (e_op opr_add o_add (b_var (pv 1)) (EE.eb e_int))) (EE.eb e_int))) (fun _ _ => rfl)))))
  (sb_cons (s_set (i := 5) sc__law_spread.nd rfl (by first | exact Or.inl rfl | exact Or.inr rfl) (e_op op_mod o_int (EE.eb (e_op op_pow o_int (EE.eb (e_op opr_add o_add (EE.eb (e_op opr_add o_add (b_var (pv 4)) (EE.eb (e_op op_mod o_int (b_var (pv 3)) (EE.eb e_int))))) (b_var (pv 1)))) (EE.eb e_int))) (EE.eb (e_ix (b_var (pv 2)) (EE.eb (e_op op_mod o_int (EE.eb (e_op opr_add o_add (b_var (pv 1)) (EE.eb e_int))) (EE.eb e_int))) (fun _ _ => rfl)))))
  (sb_one (s_ret (e_op opr_add o_add (EE.eb (e_op opr_mulT o_mulT (EE.eb (e_op opr_add o_add (EE.eb (e_op opr_mulT o_mulT (b_var (pv 3)) (EE.eb e_int))) (b_var (pv 4)))) (EE.eb e_int))) (b_var (pv 5)))))))))))
end
theorem ix_run {xs : List PyData} {i : Int} {v : PyData} {P : PyData → Prop} (h : atI xs i = some v) (p : P v) : pIx (.list xs) (.int i) P := by
  unfold pIx; simp only [h]; exact p
abbrev primesL : List PyData := [.int 2147483629, .int 2147483587, .int 2147483579, .int 2147483563, .int 2147483549, .int 2147483543, .int 2147483497, .int 2147483489] ++ [.int 2147483477, .int 2147483423, .int 2147483399, .int 2147483353, .int 2147483323]
theorem primes_at (i : Int) (h0 : 0 ≤ i) (h1 : i < 13) : ∃ p : Int, atI primesL i = some (.int p) ∧ 0 < p ∧ p < 2147483648 := by
  obtain ⟨n, rfl⟩ := Int.eq_ofNat_of_zero_le h0
  have hn : n = 0 ∨ n = 1 ∨ n = 2 ∨ n = 3 ∨ n = 4 ∨ n = 5 ∨ n = 6 ∨ n = 7 ∨ n = 8 ∨ n = 9 ∨ n = 10 ∨ n = 11 ∨ n = 12 := by omega
  rcases hn with rfl | rfl | rfl | rfl | rfl | rfl | rfl | rfl | rfl | rfl | rfl | rfl | rfl <;> exact ⟨_, rfl, by decide, by decide⟩
theorem mulb {a b c d : Int} (h0 : 0 ≤ a) (h1 : a ≤ c) (h2 : 0 ≤ b) (h3 : b ≤ d) : 0 ≤ a * b ∧ a * b ≤ c * d :=
  ⟨Int.mul_nonneg h0 h2, Int.mul_le_mul h1 h3 h2 (Int.le_trans h0 h1)⟩
theorem spread_run (cell at_ : Int) (b : Nat) (P : PyData → Nat → Prop) (h0 : 0 ≤ at_) (h1 : at_ ≤ 4294967296) (h : ∀ r : Int, 0 ≤ r → P (.int r) b) : w__law_spread [.d (.int cell), .d (.int at_)] b P := by
  refine ⟨rfl, ⟨by decide, by decide, by decide⟩, trivial, ite2 (fun e => ?_) (fun e => ?_)⟩
  · have e2 := of_decide_eq_true e
    have e3 : (10 : Int) ^ Int.toNat 18 = 1000000000000000000 := by decide
    rw [e3] at e2
    exact h cell (by omega)
  · have m0 : 0 ≤ cell % 1000000007 := Int.emod_nonneg _ (by decide)
    have m1 : cell % 1000000007 ≤ 1000000006 := by have := Int.emod_lt_of_pos cell (show (0 : Int) < 1000000007 by decide); omega
    have q1 := mulb m0 m1 (show 0 ≤ 2 * at_ + 69069 by omega) (show 2 * at_ + 69069 ≤ 8590003661 by omega)
    obtain ⟨p1, e1, g1, l1⟩ := primes_at (at_ % 13) (Int.emod_nonneg _ (by decide)) (Int.emod_lt_of_pos _ (by decide))
    refine ⟨by decide, by decide, by decide, show (0 : Int) < 1000000007 by decide, .inl (by decide), .inl ⟨by omega, by omega⟩, .inl ⟨by omega, by omega⟩, ⟨by decide, by decide, by omega⟩, show (0 : Int) < 13 by decide, ?_⟩
    refine ix_run e1 ⟨g1, ?_⟩
    generalize hone : ((cell % 1000000007 * (2 * at_ + 69069) + at_ * 40503 + 977) ^ Int.toNat 3) % p1 = one
    have o0 : 0 ≤ one := by rw [← hone]; exact Int.emod_nonneg _ (by omega)
    have o1 : one ≤ 2147483647 := by have := Int.emod_lt_of_pos ((cell % 1000000007 * (2 * at_ + 69069) + at_ * 40503 + 977) ^ Int.toNat 3) g1; omega
    have c0 : 0 ≤ cell % 65537 := Int.emod_nonneg _ (by decide)
    have c1 : cell % 65537 ≤ 65536 := by have := Int.emod_lt_of_pos cell (show (0 : Int) < 65537 by decide); omega
    have q2 := mulb o0 o1 (show 0 ≤ at_ + 3 by omega) (show at_ + 3 ≤ 4294967299 by omega)
    obtain ⟨p2, e2, g2, l2⟩ := primes_at ((at_ + 5) % 13) (Int.emod_nonneg _ (by decide)) (Int.emod_lt_of_pos _ (by decide))
    refine ⟨.inl ⟨by omega, by omega⟩, show (0 : Int) < 65537 by decide, ⟨by decide, by decide, by rw [hone]; omega⟩, show (0 : Int) < 13 by decide, ?_⟩
    refine ix_run e2 ⟨g2, ?_⟩
    generalize htwo : ((one * (at_ + 3) + cell % 65537 + 5) ^ Int.toNat 5) % p2 = two
    have t0 : 0 ≤ two := by rw [← htwo]; exact Int.emod_nonneg _ (by omega)
    have t1 : two ≤ 2147483647 := by have := Int.emod_lt_of_pos ((one * (at_ + 3) + cell % 65537 + 5) ^ Int.toNat 5) g2; omega
    have n0 : 0 ≤ one % 1009 := Int.emod_nonneg _ (by decide)
    have n1 : one % 1009 ≤ 1008 := by have := Int.emod_lt_of_pos one (show (0 : Int) < 1009 by decide); omega
    obtain ⟨p3, e3, g3, l3⟩ := primes_at ((at_ + 7) % 13) (Int.emod_nonneg _ (by decide)) (Int.emod_lt_of_pos _ (by decide))
    refine ⟨show (0 : Int) < 1009 by decide, ⟨by decide, by decide, by rw [hone, htwo]; omega⟩, show (0 : Int) < 13 by decide, ?_⟩
    refine ix_run e3 ⟨g3, .inl ?_, .inl ?_, ?_⟩
    · simp only [hone, htwo]; constructor <;> omega
    · simp only [hone, htwo]; constructor <;> omega
    refine h _ ?_
    simp only [hone, htwo]
    have s0 : 0 ≤ ((two + one % 1009 + at_) ^ Int.toNat 3) % p3 := Int.emod_nonneg _ (by omega)
    omega
theorem sc__law_take : FnScope ["pen", "amount", "at", "cell", "found"] ["pen", "amount"] (defScope s__law_take) := ⟨rfl, rfl, rfl, by decide +kernel, rfl, by decide +kernel, by decide +kernel⟩
section
variable {P : Program} {w : World} {K : PySem.W.Frag} {mg : Str → Option Value} {base : Heap}
theorem b__law_take (T : Txt P w base K mg) : Binds K T.d__law_take ["pen", "amount"] [] := T.F__law_take.binds fun _ _ _ _ _ _ us hl => match us, hl with | [_, _], _ => rfl
theorem ok__law_take (T : Txt P w base K mg) : FnOk P w K mg base CX0 2 T.a__law_take T.d__law_take ["pen", "amount"] (spW K w__law_take) := by
  refine T.F__law_take.ok sc__law_take (fun vs H Q E h => ?_) (fun cdv A outer s H vs Q E hr h => ?_)
  · obtain ⟨pn, F, ss, b, P, o, ar, ⟨n, e, _⟩, _⟩ := h
    rw [ar.len, e]; rfl
  · obtain ⟨pn, F, ss, b, PP, o, ar, ⟨n, rfl, n0, n1, b0, q⟩, k⟩ := h
    match vs, ar with
    | [v1, v2], ⟨⟨_, pq, epn, ev⟩, _, rv2, _, tk⟩ =>
    cases rv2
    subst epn
    subst ev
    obtain ⟨cells, at_, cur, p0⟩ := PenAt.of o (Ext.refl (F := F) (H := H))
    obtain ⟨pa, ca, tb⟩ := pq
    have iv := p0.inv
    have GS := ok__law_spread T
    refine ⟨_, pss_cons (ps_if (pt_cmpR op_lt (pe_ix ix_list (pv 0) pe_int (fun _ _ => rfl)) (pv 1) (nomark _))
        (pss_cons (ps_set (i := 2) sc__law_take.nd rfl (.inl rfl) (pe_ix ix_list (pv 0) pe_int (fun _ _ => rfl)))
        (pss_cons (ps_set (i := 3) sc__law_take.nd rfl (.inl rfl) pe_int)
        (pss_cons (ps_if (pt_cmpR op_lt (pv 2) (pe_callB call_len_seq (by rfl) T.n_len PySem.boot_len (pa_cons (pe_ix ix_list (pv 0) pe_int (fun _ _ => rfl)) pa_nil)) (nomark _))
            (pss_one (ps_set (i := 3) sc__law_take.nd rfl (.inl rfl) (pe_ix ix_list (pe_ix ix_list (pv 0) pe_int (fun _ _ => rfl)) (pv 2) (fun _ _ => rfl))))
            (pss_one (ps_if (pt_cmpR op_gt (pe_callB call_len_seq (by rfl) T.n_len PySem.boot_len (pa_cons (pe_ix ix_list (pv 0) pe_int (fun _ _ => rfl)) pa_nil)) pe_int (nomark _))
              (pss_one (ps_set (i := 3) sc__law_take.nd rfl (.inl rfl) (pe_op op_mod (pe_ix ix_list (pe_ix ix_list (pv 0) pe_int (fun _ _ => rfl)) (pe_op op_mod (pe_op op_add (pe_op op_mul (pv 2) pe_int) pe_int) (pe_callB call_len_seq (by rfl) T.n_len PySem.boot_len (pa_cons (pe_ix ix_list (pv 0) pe_int (fun _ _ => rfl)) pa_nil))) (fun _ _ => rfl)) (pe_op op_add (pe_op op_pow pe_int pe_int) (pv 2)))))
              pss_nil)))
        (pss_cons (ps_asg (pe_op op_add (pv 2) pe_int) (pg_sub (pv 0) pe_int set_list))
        (pss_one (ps_asg (pe_call GS (hr.mono (by decide)) (by rfl) T.g__law_spread T.F__law_spread.kp (b__law_spread T) .nil pass0 (pa_cons (pv 3) (pa_cons (pv 2) pa_nil))) (pg_sub (pv 0) pe_int set_list)))))))
        pss_nil)
      (pss_cons (ps_set (i := 4) sc__law_take.nd rfl (.inl rfl) (pe_op op_mod (pe_ix ix_list (pv 0) pe_int (fun _ _ => rfl)) (pv 1)))
      (pss_cons (ps_asg (pe_op op_fdiv (pe_ix ix_list (pv 0) pe_int (fun _ _ => rfl)) (pv 1)) (pg_sub (pv 0) pe_int set_list))
      (pss_one (ps_ret (pv 4))))), ?_⟩
    -- the end, from any moment at which the pen has turned
    have fin : ∀ (y2 y3 y4 : Option V) (F1 H1 : Hp) (cells1 : List Int) (at1 cur1 : Int), PenAt ⟨pa, ca, tb⟩ (b - 1) F H F1 H1 cells1 at1 cur1 →
        tSeq (tAsg (tOp (rI (fun _ j => 0 < j) fun i j => .int (i % j)) (tOp (rIxL K) (tVar 0) (tC (.int 2))) (tVar 1)) (gName 4))
          (tSeq (tAsg (tOp (rI CDiv fun i j => .int (i / j)) (tOp (rIxL K) (tVar 0) (tC (.int 2))) (tVar 1)) (gSub (tVar 0) (tC (.int 2)) rSetL)) (tRet (tVar 4)))
          { nx := fun _ H' => Q .non H', rt := Q } [some (.ref pa), some (.int n), y2, y3, y4] H1 := fun y2 y3 y4 F1 H1 cells1 at1 cur1 p => by
      refine ⟨_, rfl, pa, _, _, _, rfl, rfl, SqL.of p.pen, rfl, _, rfl, cur1, n, rfl, rfl, n0, ?_⟩
      refine ⟨_, rfl, pa, _, _, _, rfl, rfl, SqL.of p.pen, rfl, _, rfl, cur1, n, rfl, rfl, ⟨n0, n1⟩, ?_⟩
      refine ⟨_, rfl, pa, _, 2, 2, rfl, rfl, p.pen, rfl, ?_⟩
      refine ⟨_, rfl, ?_⟩
      have pt := p.turn (at' := at1) (cur' := cur1 / n) (b' := b - 1) ⟨p.inv.at0, p.inv.most, Int.ediv_nonneg p.inv.cur0 (by omega), p.inv.few⟩
      exact k _ _ F1 _ (b - 1) pt.ok pt.ext (.int _) (q _ (Int.emod_nonneg _ (by omega)) (Int.emod_lt_of_pos _ n0))
    refine ⟨_, rfl, pa, _, _, _, rfl, rfl, SqL.of p0.pen, rfl, _, rfl, cur, n, rfl, rfl, _, rfl, ite2 (fun _ => ?_) (fun _ => ?_)⟩
    · -- a new cell
      refine ⟨_, rfl, pa, _, _, _, rfl, rfl, SqL.of p0.pen, rfl, ?_⟩
      have cont : ∀ (c : Int), tSeq (tAsg (tOp (rI0 fun i j => .int (i + j)) (tVar 2) (tC (.int 1))) (gSub (tVar 0) (tC (.int 1)) rSetL))
          (tAsg (tCall (spW K w__law_spread) [] E0 (tCons (tVar 3) (tCons (tVar 2) tNil))) (gSub (tVar 0) (tC (.int 2)) rSetL))
          { nx := fun σ' H' => (tSeq (tAsg (tOp (rI (fun _ j => 0 < j) fun i j => .int (i % j)) (tOp (rIxL K) (tVar 0) (tC (.int 2))) (tVar 1)) (gName 4))
          (tSeq (tAsg (tOp (rI CDiv fun i j => .int (i / j)) (tOp (rIxL K) (tVar 0) (tC (.int 2))) (tVar 1)) (gSub (tVar 0) (tC (.int 2)) rSetL)) (tRet (tVar 4)))
          { nx := fun _ H' => Q .non H', rt := Q } σ' H'), rt := Q } [some (.ref pa), some (.int n), some (.int at_), some (.int c), none] H := fun c => by
        refine ⟨_, rfl, at_, 1, rfl, rfl, _, rfl, pa, _, 1, 1, rfl, rfl, p0.pen, rfl, ?_⟩
        have p1 := p0.turn (at' := at_ + 1) (cur' := cur) (b' := b - 1) ⟨by have := iv.at0; omega, by have := iv.most; omega, iv.cur0, iv.few⟩
        refine ⟨_, rfl, _, rfl, some ⟨pa, ca, tb⟩, F, [.d (.int c), .d (.int at_)], b - 1, _, p1.ok, ⟨.int c, rfl, .int at_, rfl, tk⟩, spread_run c at_ (b - 1) (fun d b2 => ∃ r : Int, d = .int r ∧ 0 ≤ r ∧ b2 = b - 1) iv.at0 (by have := iv.most; omega) (fun r r0 => ⟨r, rfl, r0, rfl⟩), fun v d F2 H2 b2 o2 x2 rv ⟨r, er, r0, eb⟩ => ?_⟩
        subst er
        subst eb
        cases rv
        obtain ⟨cells2, at2, cur2, p2⟩ := p1.trans o2 x2
        refine ⟨_, rfl, pa, _, 2, 2, rfl, rfl, p2.pen, rfl, ?_⟩
        exact fin _ _ _ F2 _ cells2 at2 r (p2.turn ⟨p2.inv.at0, p2.inv.most, r0, p2.inv.few⟩)
      refine ⟨_, rfl, _, rfl, pa, _, _, _, rfl, rfl, SqL.of p0.pen, rfl, ca, _, rfl, .inl (SqL.of p0.cellsAt), ?_⟩
      refine ⟨_, _, rfl, rfl, _, rfl, ite2 (fun e => ?_) (fun e => ?_)⟩
      · have e1 := of_decide_eq_true e
        rw [List.length_map] at e1
        have a0 := iv.at0
        have hl : at_.toNat < cells.length := by omega
        have hat : atI (cells.map V.int) at_ = some (.int cells[at_.toNat]) := by
          have := atI_nat (j := at_.toNat) (xs := cells.map V.int) (v := .int cells[at_.toNat]) (by rw [List.getElem?_map, List.getElem?_eq_getElem hl]; rfl)
          rw [Int.toNat_of_nonneg a0] at this
          exact this
        refine ⟨_, rfl, pa, _, _, _, rfl, rfl, SqL.of p0.pen, rfl, _, rfl, ca, _, at_, _, rfl, rfl, SqL.of p0.cellsAt, hat, ?_⟩
        exact cont _
      · refine ⟨_, rfl, pa, _, _, _, rfl, rfl, SqL.of p0.pen, rfl, ca, _, rfl, .inl (SqL.of p0.cellsAt), ?_⟩
        refine ⟨_, 0, rfl, rfl, _, rfl, ite2 (fun e => ?_) (fun e => ?_)⟩
        · have e1 := of_decide_eq_true e
          rw [List.length_map] at e1
          have a0 := iv.at0
          have am := iv.most
          refine ⟨_, rfl, pa, _, _, _, rfl, rfl, SqL.of p0.pen, rfl, _, rfl, at_, 5, rfl, rfl, .inl ⟨by omega, by omega⟩, _, 3, rfl, rfl, _, rfl, pa, _, _, _, rfl, rfl, SqL.of p0.pen, rfl, ca, _, rfl, .inl (SqL.of p0.cellsAt), ?_⟩
          have len0 : (0 : Int) < ((cells.map V.int).length : Nat) := by rw [List.length_map]; omega
          have m0 : 0 ≤ (at_ * 5 + 3) % ((cells.map V.int).length : Nat) := Int.emod_nonneg _ (by omega)
          have m1 := Int.emod_lt_of_pos (at_ * 5 + 3) len0
          have lenE : (((cells.map V.int).length : Nat) : Int) = (cells.length : Nat) := by rw [List.length_map]
          generalize hm : (at_ * 5 + 3) % ((cells.map V.int).length : Nat) = m at m0 m1
          have hl : m.toNat < cells.length := by omega
          have hat : atI (cells.map V.int) m = some (.int cells[m.toNat]) := by
            have := atI_nat (j := m.toNat) (xs := cells.map V.int) (v := .int cells[m.toNat]) (by rw [List.getElem?_map, List.getElem?_eq_getElem hl]; rfl)
            rw [Int.toNat_of_nonneg m0] at this
            exact this
          refine ⟨_, _, rfl, rfl, len0, ca, _, _, _, rfl, rfl, SqL.of p0.cellsAt, by rw [hm]; exact hat, 10, 17, rfl, rfl, ⟨by decide, by decide, by decide⟩, _, rfl, _, at_, rfl, rfl, _, _, rfl, rfl, ?_, ?_⟩
          · show (0 : Int) < 10 ^ Int.toNat 17 + at_
            have : (10 : Int) ^ Int.toNat 17 = 100000000000000000 := by decide
            omega
          · exact cont _
        · exact cont 0
    · exact fin _ _ _ F H cells at_ cur (p0.le (by omega))
end
section
variable {P : Program} {w : World} {K : PySem.W.Frag} {mg : Str → Option Value} {base : Heap}
theorem b__law_subset (T : Txt P w base K mg) : Binds K T.d__law_subset ["pen", "columns"] [] := T.F__law_subset.binds fun _ _ _ _ _ _ us hl => match us, hl with | [_, _], _ => rfl
theorem ok__law_subset (T : Txt P w base K mg) : FnOk P w K mg base CX0 3 T.a__law_subset T.d__law_subset ["pen", "columns"] (spW K w__law_subset) := ok_fn (N := N__law_subset) (k := 2) T.F__law_subset sc__law_subset fun cdv A outer s H E hr => 
  (sb_one (s_ret (e_join (EE.eb e_str) (EE.eb (EF.ee (f_lc (own := [("column", 2)]) (g := (.nm 2)) rfl sc__law_subset.nd (i_seqB (b_var (pv 1))) (blkOk_by (N := N__law_subset) (sc := defScope s__law_subset) (by decide +kernel)) (by simp [Tg.slots]) (fun _ _ _ _ _ => (g_nm sc__law_subset.nd rfl (by first | exact Or.inl rfl | exact Or.inr rfl))) (fun _ _ _ _ _ => (ts_one (t_cmp (op_eq2 (hu64 hr)) o_eq2 (EE.eb (e_call (ok__law_take T) (hr.mono (by decide)) (by rfl) T.g__law_take T.F__law_take.kp (b__law_take T) (a_name (pv 0) (a_cons e_int a_nil)))) (EE.eb e_int) (nomark _)))) (fun _ _ _ _ _ => (e_var (pv 2)))))))))
end
section
variable {P : Program} {w : World} {K : PySem.W.Frag} {mg : Str → Option Value} {base : Heap}
theorem b__law_draw_schema (T : Txt P w base K mg) : Binds K T.d__law_draw_schema ["pen", "most"] [] := T.F__law_draw_schema.binds fun _ _ _ _ _ _ us hl => match us, hl with | [_, _], _ => rfl
theorem ok__law_draw_schema (T : Txt P w base K mg) : FnOk P w K mg base CX0 4 T.a__law_draw_schema T.d__law_draw_schema ["pen", "most"] (spW K w__law_draw_schema) := ok_fn (N := N__law_draw_schema) (k := 3) T.F__law_draw_schema sc__law_draw_schema fun cdv A outer s H E hr => 
  (sb_cons (s_set (i := 2) sc__law_draw_schema.nd rfl (by first | exact Or.inl rfl | exact Or.inr rfl) (e_ix (EE.eb (EF.ee (f_lst (d_cons e_str (d_cons e_str (d_cons e_str (d_cons e_str (d_cons e_str (d_cons e_str (d_cons e_str d_nil)))))))))) (EE.eb (e_call (ok__law_take T) (hr.mono (by decide)) (by rfl) T.g__law_take T.F__law_take.kp (b__law_take T) (a_name (pv 0) (a_cons e_int a_nil)))) (fun _ _ => rfl)))
  (sb_cons (s_asg (e_tup (d_cons (e_sl (b_var (pv 2)) o_none (o_some (EE.eb (e_op opr_add o_add (EE.eb e_int) (EE.eb (e_call (ok__law_take T) (hr.mono (by decide)) (by rfl) T.g__law_take T.F__law_take.kp (b__law_take T) (a_name (pv 0) (a_name (pv 1) a_nil)))))))) (d_cons (EF.ee (f_lst d_nil)) (d_cons (EF.ee (f_lst d_nil)) d_nil)))) (g_tp rfl (.cons (pg_name sc__law_draw_schema.nd rfl (by first | exact Or.inl rfl | exact Or.inr rfl)) (by rfl) (.cons (pg_name sc__law_draw_schema.nd rfl (by first | exact Or.inl rfl | exact Or.inr rfl)) (by rfl) (.cons (pg_name sc__law_draw_schema.nd rfl (by first | exact Or.inl rfl | exact Or.inr rfl)) (by rfl) .nil)))))
  (sb_cons (s_for PassesOwn.never rfl (i_rng1 false (by rfl) T.n_range (EE.eb (e_ix (EE.eb (EF.ee (f_lst (d_cons e_int (d_cons e_int (d_cons e_int (d_cons e_int (d_cons e_int d_nil)))))))) (EE.eb (e_call (ok__law_take T) (hr.mono (by decide)) (by rfl) T.g__law_take T.F__law_take.kp (b__law_take T) (a_name (pv 0) (a_cons e_int a_nil)))) (fun _ _ => rfl)))) (g_nm sc__law_draw_schema.nd rfl (by first | exact Or.inl rfl | exact Or.inr rfl))
  (sb_pick (ic := 3) (ip := 0) (ir := 7) (il := 8) sc__law_draw_schema.nd rfl (by first | exact Or.inl rfl | exact Or.inr (Or.inl rfl)) (by decide) (by decide) rfl (by first | exact Or.inl rfl | exact Or.inr (Or.inl rfl)) (by decide) (by decide) rfl rfl (by decide) rfl (by first | exact Or.inl rfl | exact Or.inr rfl) (Or.inl rfl) (by decide) (by decide) (ok__law_take T) (hr.mono (by decide)) (by rfl) T.g__law_take T.F__law_take.kp (b__law_take T) (by decide) (ok__law_subset T) (hr.mono (by decide)) (by rfl) T.g__law_subset T.F__law_subset.kp (b__law_subset T) (by decide) (by rfl) T.n_len (by rfl) (by rfl) (by rfl) (by rfl) (by rfl) (by rfl) (by rfl) (by rfl) (by rfl) (by rfl) (sb_one (s_set (i := 4) sc__law_draw_schema.nd rfl (by first | exact Or.inl rfl | exact Or.inr rfl) (e_op opr_add o_add (b_var (pv 4)) (EE.eb (e_op opr_mulT o_mulT (EE.eb (EF.ee (f_lst (d_cons (e_tup (d_cons (e_var (pv 8)) (d_cons (e_var (pv 7)) d_nil))) d_nil)))) (EE.eb (e_ty1 call_int1 c_int (by rfl) T.n_int (by decide +kernel) (EE.eb (e_cmp (opr_ni2 (hu64 hr)) o_ni2 (EE.eb (e_tup (d_cons (e_var (pv 8)) (d_cons (e_var (pv 7)) d_nil)))) (b_var (pv 4)) (by rfl))))))))))))
  (sb_cons (s_if (t_cmp (op_eq2 (hu64 hr)) o_eq2 (EE.eb (e_call (ok__law_take T) (hr.mono (by decide)) (by rfl) T.g__law_take T.F__law_take.kp (b__law_take T) (a_name (pv 0) (a_cons e_int a_nil)))) (EE.eb e_int) (nomark _))
  (sb_cons (s_set (i := 4) sc__law_draw_schema.nd rfl (by first | exact Or.inl rfl | exact Or.inr rfl) (e_rev (EE.eb (EF.ee (f_lc (own := [("k", 10)]) (g := (.nm 10)) rfl sc__law_draw_schema.nd (i_rng1 true (by rfl) T.n_range (EE.eb (e_op op_sub o_int0 (EE.eb (e_call1 call_len c_len (by rfl) T.n_len (by decide +kernel) (b_var (pv 3)))) (EE.eb e_int)))) (blkOk_by (N := N__law_draw_schema) (sc := defScope s__law_draw_schema) (by decide +kernel)) (by simp [Tg.slots]) (fun _ _ _ _ _ => (g_nm sc__law_draw_schema.nd rfl (by first | exact Or.inl rfl | exact Or.inr rfl))) (fun _ _ _ _ _ => ts_nil) (fun _ _ _ _ _ => (e_tup (d_cons (e_ix (b_var (pv 3)) (b_var (pv 10)) (fun _ _ => rfl)) (d_cons (e_ix (b_var (pv 3)) (EE.eb (e_op opr_add o_add (b_var (pv 10)) (EE.eb e_int))) (fun _ _ => rfl)) d_nil)))))))))
  (sb_one (s_set (i := 4) sc__law_draw_schema.nd rfl (by first | exact Or.inl rfl | exact Or.inr rfl) (e_op opr_add o_add (b_var (pv 4)) (EE.eb (e_op opr_mulT o_mulT (EE.eb (EF.ee (f_lst (d_cons (e_tup (d_cons e_str (d_cons (e_ix (b_var (pv 3)) (EE.eb e_int) (fun _ _ => rfl)) d_nil))) d_nil)))) (EE.eb (e_call (ok__law_take T) (hr.mono (by decide)) (by rfl) T.g__law_take T.F__law_take.kp (b__law_take T) (a_name (pv 0) (a_cons e_int a_nil))))))))))
  sb_nil)
  (sb_cons (s_for PassesOwn.never rfl (i_rng1 false (by rfl) T.n_range (EE.eb (e_ix (EE.eb (EF.ee (f_lst (d_cons e_int (d_cons e_int (d_cons e_int (d_cons e_int d_nil))))))) (EE.eb (e_call (ok__law_take T) (hr.mono (by decide)) (by rfl) T.g__law_take T.F__law_take.kp (b__law_take T) (a_name (pv 0) (a_cons e_int a_nil)))) (fun _ _ => rfl)))) (g_nm sc__law_draw_schema.nd rfl (by first | exact Or.inl rfl | exact Or.inr rfl))
  (sb_cons (s_set (i := 9) sc__law_draw_schema.nd rfl (by first | exact Or.inl rfl | exact Or.inr rfl) (e_or (e_call (ok__law_subset T) (hr.mono (by decide)) (by rfl) T.g__law_subset T.F__law_subset.kp (b__law_subset T) (a_name (pv 0) (a_name (pv 3) a_nil))) (e_one (e_ix (b_var (pv 3)) (EE.eb (e_neg (EE.eb e_int))) (fun _ _ => rfl)))))
  (sb_one (s_set (i := 5) sc__law_draw_schema.nd rfl (by first | exact Or.inl rfl | exact Or.inr rfl) (e_op opr_add o_add (b_var (pv 5)) (EE.eb (e_op opr_mulT o_mulT (EE.eb (EF.ee (f_lst (d_cons (e_var (pv 9)) d_nil)))) (EE.eb (e_ty1 call_int1 c_int (by rfl) T.n_int (by decide +kernel) (EE.eb (e_cmp (opr_ni2 (hu64 hr)) o_ni2 (b_var (pv 9)) (b_var (pv 5)) (by rfl))))))))))))
  (sb_one (s_ret (e_tup (d_cons (e_var (pv 3)) (d_cons (e_ty1 (call_tupA rfl) c_tupA (by rfl) T.n_tuple (by decide +kernel) (b_var (pv 4))) (d_cons (e_ty1 (call_tupA rfl) c_tupA (by rfl) T.n_tuple (by decide +kernel) (b_var (pv 5))) d_nil)))))))))))
end
section
variable {P : Program} {w : World} {K : PySem.W.Frag} {mg : Str → Option Value} {base : Heap}
theorem b__law_cells (T : Txt P w base K mg) : Binds K T.d__law_cells ["schema", "row", "columns"] [] := T.F__law_cells.binds fun _ _ _ _ _ _ us hl => match us, hl with | [_, _, _], _ => rfl
theorem ok__law_cells (T : Txt P w base K mg) : FnOk P w K mg base CX0 1 T.a__law_cells T.d__law_cells ["schema", "row", "columns"] (spW K w__law_cells) := ok_fn (N := N__law_cells) (k := 0) T.F__law_cells sc__law_cells fun cdv A outer s H E hr => 
  (sb_one (s_ret (EF.ee (f_lc (own := [("column", 3)]) (g := (.nm 3)) rfl sc__law_cells.nd (i_seqB (b_var (pv 2))) (blkOk_by (N := N__law_cells) (sc := defScope s__law_cells) (by decide +kernel)) (by simp [Tg.slots]) (fun _ _ _ _ _ => (g_nm sc__law_cells.nd rfl (by first | exact Or.inl rfl | exact Or.inr rfl))) (fun _ _ _ _ _ => ts_nil) (fun _ _ _ _ _ => (e_ix (b_var (pv 1)) (EE.eb (e_index (EE.eb (e_ix (b_var (pv 0)) (EE.eb e_int) (fun _ _ => rfl))) (b_var (pv 3)))) (fun _ _ => rfl)))))))
end
section
variable {P : Program} {w : World} {K : PySem.W.Frag} {mg : Str → Option Value} {base : Heap}
theorem b__law_one_way (T : Txt P w base K mg) : Binds K T.d__law_one_way ["schema", "rows", "step"] [] := T.F__law_one_way.binds fun _ _ _ _ _ _ us hl => match us, hl with | [_, _, _], _ => rfl
theorem ok__law_one_way (T : Txt P w base K mg) : FnOk P w K mg base CX0 5 T.a__law_one_way T.d__law_one_way ["schema", "rows", "step"] (spW K w__law_one_way) := ok_fnC (N := N__law_one_way) (k := 4) T.F__law_one_way T.h__law_one_way sc__law_one_way fun A outer s H E hr => 
  (sb_cons (s_if (t_cmp (op_eq2 (hu64 hr)) o_eq2 (EE.eb (e_ix (b_var (pv 2)) (EE.eb e_int) (fun _ _ => rfl))) (EE.eb e_str) (nomark _))
  (sb_one (s_ret (EF.ee (f_lc (own := [("row", 3)]) (g := (.nm 3)) rfl sc__law_one_way.nd (i_seqB (b_var (pv 1))) (blkOk_by (N := N__law_one_way) (sc := defScope s__law_one_way) (by decide +kernel)) (by simp [Tg.slots]) (fun _ _ _ _ _ => (g_nm sc__law_one_way.nd rfl (by first | exact Or.inl rfl | exact Or.inr rfl))) (fun _ _ _ _ _ => (ts_one (t_cmp (op_eq2 (hu64 hr)) o_eq2 (EE.eb (e_call (ok__law_cells T) (hr.mono (by decide)) (by rfl) T.g__law_cells T.F__law_cells.kp (b__law_cells T) (a_name (pv 0) (a_name (pv 3) (a_cons (e_ix (b_var (pv 2)) (EE.eb e_int) (fun _ _ => rfl)) a_nil))))) (EE.eb (EF.ee (f_lst (d_cons (e_ix (b_var (pv 2)) (EE.eb e_int) (fun _ _ => rfl)) d_nil)))) (nomark _)))) (fun _ _ _ _ _ => (e_var (pv 3)))))))
  sb_nil)
  (sb_cons (s_if (t_cmp (op_eq2 (hu64 hr)) o_eq2 (EE.eb (e_ix (b_var (pv 2)) (EE.eb e_int) (fun _ _ => rfl))) (EE.eb e_str) (nomark _))
  (sb_one (s_ret (EF.ee (f_sortK (k := 1) (ip := 3) (own := []) rfl (by rfl) T.n_sorted (c_data rfl (b_var (pv 1))) (hr.mono (by decide)) T.B__law_one_way rfl T.m__law_one_way T.u__law_one_way (lam1_by (N := N__law_one_way) (sc := defScope s__law_one_way) (x := "row") (by decide +kernel)) sc__law_one_way.nd rfl (fun _ _ _ _ _ => rfl) (fun s H f c hr => (e_call (ok__law_cells T) (hr.mono (by decide)) (by rfl) T.g__law_cells T.F__law_cells.kp (b__law_cells T) (a_name (pv 0) (a_name (pv 3) (a_cons (e_ix (b_var (pv 2)) (EE.eb e_int) (fun _ _ => rfl)) a_nil)))))))))
  sb_nil)
  (sb_cons (s_if (t_cmp (op_eq2 (hu64 hr)) o_eq2 (EE.eb (e_ix (b_var (pv 2)) (EE.eb e_int) (fun _ _ => rfl))) (EE.eb e_str) (nomark _))
  (sb_one (s_ret (e_sl (b_var (pv 1)) o_none (o_some (EE.eb (e_ix (b_var (pv 2)) (EE.eb e_int) (fun _ _ => rfl)))))))
  sb_nil)
  (sb_one (s_ret (e_if (t_cmp (op_eq2 (hu64 hr)) o_eq2 (EE.eb (e_ix (b_var (pv 2)) (EE.eb e_int) (fun _ _ => rfl))) (EE.eb e_str) (nomark _)) (e_sl (b_var (pv 1)) (o_some (EE.eb (e_ix (b_var (pv 2)) (EE.eb e_int) (fun _ _ => rfl)))) o_none) (e_var (pv 1))))))))
end
section
variable {P : Program} {w : World} {K : PySem.W.Frag} {mg : Str → Option Value} {base : Heap}
theorem b__law_first (T : Txt P w base K mg) : Binds K T.d__law_first ["schema", "report", "rows"] [] := T.F__law_first.binds fun _ _ _ _ _ _ us hl => match us, hl with | [_, _, _], _ => rfl
theorem ok__law_first (T : Txt P w base K mg) : FnOk P w K mg base CX0 9 T.a__law_first T.d__law_first ["schema", "report", "rows"] (spW K w__law_first) := ok_fnC (N := N__law_first) (k := 8) T.F__law_first T.h__law_first sc__law_first fun A outer s H E hr => 
  (sb_cons (s_unpLD rfl (pg_name (i := 3) sc__law_first.nd rfl (by first | exact Or.inl rfl | exact Or.inr rfl)) (pg_name (i := 4) sc__law_first.nd rfl (by first | exact Or.inl rfl | exact Or.inr rfl)) (f_lst (d_cons (EF.ee (f_listR rfl (by rfl) T.n_list (by rfl) T.n_range (EE.eb (e_call1 call_len c_len (by rfl) T.n_len (by decide +kernel) (b_var (pv 2)))))) d_nil)) (EF.ee (f_ty1 (call_listA rfl) c_listA (by rfl) T.n_list (by decide +kernel) (b_var (pv 2)))) (by rfl))
  (sb_cons (s_for PassesOwn.never rfl (i_seq false (e_var (pv 1))) (g_nm sc__law_first.nd rfl (by first | exact Or.inl rfl | exact Or.inr rfl))
  (sb_one (s_if (t_cmp (op_eq2 (hu64 hr)) o_eq2 (EE.eb (e_ix (b_var (pv 5)) (EE.eb e_int) (fun _ _ => rfl))) (EE.eb e_str) (nomark _))
  (sb_cons (s_set (i := 6) sc__law_first.nd rfl (by first | exact Or.inl rfl | exact Or.inr rfl) (EF.ee (f_sortK (k := 5) (ip := 7) (own := []) rfl (by rfl) T.n_sorted (c_range rfl (by rfl) T.n_range (EE.eb (e_call1 call_len c_len (by rfl) T.n_len (by decide +kernel) (b_var (pv 4))))) (hr.mono (by decide)) T.B__law_first rfl T.m__law_first T.u__law_first (lam1_by (N := N__law_first) (sc := defScope s__law_first) (x := "k") (by decide +kernel)) sc__law_first.nd rfl (fun _ _ _ _ _ => rfl) (fun s H f c hr => (e_tup (d_cons (e_call (ok__law_cells T) (hr.mono (by decide)) (by rfl) T.g__law_cells T.F__law_cells.kp (b__law_cells T) (a_name (pv 0) (a_cons (e_ix (b_var (pv 4)) (b_var (pv 7)) (fun _ _ => rfl)) (a_cons (e_ix (b_var (pv 5)) (EE.eb e_int) (fun _ _ => rfl)) a_nil)))) (d_cons (e_var (pv 7)) d_nil)))))))
  (sb_cons (s_app (pv 3) (e_var (pv 6)))
  (sb_one (s_set (i := 4) sc__law_first.nd rfl (by first | exact Or.inl rfl | exact Or.inr rfl) (EF.ee (f_lc (own := [("k", 7)]) (g := (.nm 7)) rfl sc__law_first.nd (i_seqB (b_var (pv 6))) (blkOk_by (N := N__law_first) (sc := defScope s__law_first) (by decide +kernel)) (by simp [Tg.slots]) (fun _ _ _ _ _ => (g_nm sc__law_first.nd rfl (by first | exact Or.inl rfl | exact Or.inr rfl))) (fun _ _ _ _ _ => ts_nil) (fun _ _ _ _ _ => (e_ix (b_var (pv 4)) (b_var (pv 7)) (fun _ _ => rfl)))))))))
  (sb_one (s_set (i := 4) sc__law_first.nd rfl (by first | exact Or.inl rfl | exact Or.inr rfl) (e_call (ok__law_one_way T) (hr.mono (by decide)) (by rfl) T.g__law_one_way T.F__law_one_way.kp (b__law_one_way T) (a_name (pv 0) (a_name (pv 4) (a_name (pv 5) a_nil)))))))))
  (sb_one (s_fz (i := 3) (s_ret (e_tup (d_cons (e_var (pv 3)) (d_cons (e_var (pv 4)) d_nil))))))))
end
section
variable {P : Program} {w : World} {K : PySem.W.Frag} {mg : Str → Option Value} {base : Heap}
theorem b__law_mixed (T : Txt P w base K mg) : Binds K T.d__law_mixed ["pen", "columns"] [] := T.F__law_mixed.binds fun _ _ _ _ _ _ us hl => match us, hl with | [_, _], _ => rfl
theorem ok__law_mixed (T : Txt P w base K mg) : FnOk P w K mg base CX0 3 T.a__law_mixed T.d__law_mixed ["pen", "columns"] (spW K w__law_mixed) := ok_fn (N := N__law_mixed) (k := 2) T.F__law_mixed sc__law_mixed fun cdv A outer s H E hr => 
  (sb_cons (s_set (i := 2) sc__law_mixed.nd rfl (by first | exact Or.inl rfl | exact Or.inr rfl) e_str)
  (sb_cons (s_for PassesOwn.never rfl (i_seq false (e_var (pv 1))) (g_nm sc__law_mixed.nd rfl (by first | exact Or.inl rfl | exact Or.inr rfl))
  (sb_cons (s_set (i := 4) sc__law_mixed.nd rfl (by first | exact Or.inl rfl | exact Or.inr rfl) (e_call (ok__law_take T) (hr.mono (by decide)) (by rfl) T.g__law_take T.F__law_take.kp (b__law_take T) (a_name (pv 0) (a_cons (e_op opr_add o_add (EE.eb (e_call1 call_len c_len (by rfl) T.n_len (by decide +kernel) (b_var (pv 2)))) (EE.eb e_int)) a_nil))))
  (sb_one (s_set (i := 2) sc__law_mixed.nd rfl (by first | exact Or.inl rfl | exact Or.inr rfl) (e_op opr_add o_add (EE.eb (e_op opr_add o_add (EE.eb (e_sl (b_var (pv 2)) o_none (o_some (b_var (pv 4))))) (b_var (pv 3)))) (EE.eb (e_sl (b_var (pv 2)) (o_some (b_var (pv 4))) o_none)))))))
  (sb_one (s_ret (e_var (pv 2))))))
end
section
variable {P : Program} {w : World} {K : PySem.W.Frag} {mg : Str → Option Value} {base : Heap}
theorem b__law_draw_step (T : Txt P w base K mg) : Binds K T.d__law_draw_step ["pen", "kept", "is_behind", "size"] [] := T.F__law_draw_step.binds fun _ _ _ _ _ _ us hl => match us, hl with | [_, _, _, _], _ => rfl
theorem ok__law_draw_step (T : Txt P w base K mg) : FnOk P w K mg base CX0 4 T.a__law_draw_step T.d__law_draw_step ["pen", "kept", "is_behind", "size"] (spW K w__law_draw_step) := ok_fn (N := N__law_draw_step) (k := 3) T.F__law_draw_step sc__law_draw_step fun cdv A outer s H E hr => 
  (sb_cons (s_set (i := 4) sc__law_draw_step.nd rfl (by first | exact Or.inl rfl | exact Or.inr rfl) (e_call (ok__law_take T) (hr.mono (by decide)) (by rfl) T.g__law_take T.F__law_take.kp (b__law_take T) (a_name (pv 0) (a_cons e_int a_nil))))
  (sb_cons (s_if (PW.pt (tw_and (t_cmp op_lt o_intB (b_var (pv 4)) (EE.eb e_int) (nomark _)) (pw_and1 (t_not (t_tru (b_var (pv 2)) (by intro _; rfl))))))
  (sb_cons (s_set (i := 5) sc__law_draw_step.nd rfl (by first | exact Or.inl rfl | exact Or.inr rfl) (e_call (ok__law_mixed T) (hr.mono (by decide)) (by rfl) T.g__law_mixed T.F__law_mixed.kp (b__law_mixed T) (a_name (pv 0) (a_cons (e_or (e_call (ok__law_subset T) (hr.mono (by decide)) (by rfl) T.g__law_subset T.F__law_subset.kp (b__law_subset T) (a_name (pv 0) (a_name (pv 1) a_nil))) (e_one (e_sl (b_var (pv 1)) o_none (o_some (EE.eb e_int))))) a_nil))))
  (sb_one (s_ret (e_tup (d_cons (e_ix (EE.eb (EF.ee (f_lst (d_cons e_str (d_cons e_str (d_cons e_str (d_cons e_str d_nil))))))) (b_var (pv 4)) (fun _ _ => rfl)) (d_cons (e_var (pv 5)) d_nil))))))
  sb_nil)
  (sb_cons (s_if (PW.pt (tw_and (t_cmp op_lt o_intB (b_var (pv 4)) (EE.eb e_int) (nomark _)) (pw_and1 (t_tru (b_var (pv 2)) (by intro _; rfl)))))
  (sb_one (s_ret (e_tup (d_cons (e_ix (EE.eb (EF.ee (f_lst (d_cons e_str (d_cons e_str (d_cons e_str d_nil)))))) (EE.eb (e_op op_mod o_int (b_var (pv 4)) (EE.eb e_int))) (fun _ _ => rfl)) (d_cons (e_call (ok__law_take T) (hr.mono (by decide)) (by rfl) T.g__law_take T.F__law_take.kp (b__law_take T) (a_name (pv 0) (a_cons (e_ix (EE.eb (EF.ee (f_lst (d_cons (e_var (pv 3)) (d_cons (e_var (pv 3)) (d_cons (e_var (pv 3)) (d_cons e_int d_nil))))))) (EE.eb (e_call (ok__law_take T) (hr.mono (by decide)) (by rfl) T.g__law_take T.F__law_take.kp (b__law_take T) (a_name (pv 0) (a_cons e_int a_nil)))) (fun _ _ => rfl)) a_nil))) d_nil)))))
  sb_nil)
  (sb_cons (s_if (t_cmp (op_eq2 (hu64 hr)) o_eq2 (b_var (pv 4)) (EE.eb e_int) (nomark _))
  (sb_one (s_ret (e_tup (d_cons e_str (d_cons (e_or (e_call (ok__law_subset T) (hr.mono (by decide)) (by rfl) T.g__law_subset T.F__law_subset.kp (b__law_subset T) (a_name (pv 0) (a_name (pv 1) a_nil))) (e_one (e_var (pv 1)))) d_nil)))))
  sb_nil)
  (sb_one (s_ret (e_tup (d_cons e_str (d_cons (e_ix (b_var (pv 1)) (EE.eb (e_call (ok__law_take T) (hr.mono (by decide)) (by rfl) T.g__law_take T.F__law_take.kp (b__law_take T) (a_name (pv 0) (a_cons (e_call1 call_len c_len (by rfl) T.n_len (by decide +kernel) (b_var (pv 1))) a_nil)))) (fun _ _ => rfl)) (d_cons (e_op op_sub o_int0 (EE.eb (e_call (ok__law_take T) (hr.mono (by decide)) (by rfl) T.g__law_take T.F__law_take.kp (b__law_take T) (a_name (pv 0) (a_cons e_int a_nil)))) (EE.eb (e_ix (EE.eb (EF.ee (f_lst (d_cons e_int (d_cons e_int (d_cons e_int (d_cons (e_neg (EE.eb e_int)) (d_cons (e_neg (EE.eb e_int)) d_nil)))))))) (EE.eb (e_call (ok__law_take T) (hr.mono (by decide)) (by rfl) T.g__law_take T.F__law_take.kp (b__law_take T) (a_name (pv 0) (a_cons e_int a_nil)))) (fun _ _ => rfl)))) d_nil))))))))))
end
section
variable {P : Program} {w : World} {K : PySem.W.Frag} {mg : Str → Option Value} {base : Heap}
theorem b__law_draw_report (T : Txt P w base K mg) : Binds K T.d__law_draw_report ["pen", "schema", "most", "size"] [] := T.F__law_draw_report.binds fun _ _ _ _ _ _ us hl => match us, hl with | [_, _, _, _], _ => rfl
theorem ok__law_draw_report (T : Txt P w base K mg) : FnOk P w K mg base CX0 5 T.a__law_draw_report T.d__law_draw_report ["pen", "schema", "most", "size"] (spW K w__law_draw_report) := ok_fn (N := N__law_draw_report) (k := 4) T.F__law_draw_report sc__law_draw_report fun cdv A outer s H E hr => 
  (sb_cons (s_parL rfl sc__law_draw_report.nd (i := 4) (j := 5) rfl rfl (by decide) rfl rfl (e_ix (b_var (pv 1)) (EE.eb e_int) (fun _ _ => rfl)) (f_lst d_nil) (by rfl))
  (sb_cons (s_set (i := 6) sc__law_draw_report.nd rfl (by first | exact Or.inl rfl | exact Or.inr rfl) (e_call (ok__law_take T) (hr.mono (by decide)) (by rfl) T.g__law_take T.F__law_take.kp (b__law_take T) (a_name (pv 0) (a_cons (e_op opr_add o_add (b_var (pv 2)) (EE.eb e_int)) a_nil))))
  (sb_cons (s_for PassesOwn.never rfl (i_rng1 false (by rfl) T.n_range (EE.eb (e_call (ok__law_take T) (hr.mono (by decide)) (by rfl) T.g__law_take T.F__law_take.kp (b__law_take T) (a_name (pv 0) (a_cons (e_op opr_add o_add (b_var (pv 2)) (EE.eb e_int)) a_nil))))) (g_nm sc__law_draw_report.nd rfl (by first | exact Or.inl rfl | exact Or.inr rfl))
  (sb_cons (s_set (i := 8) sc__law_draw_report.nd rfl (by first | exact Or.inl rfl | exact Or.inr rfl) (e_call (ok__law_draw_step T) (hr.mono (by decide)) (by rfl) T.g__law_draw_step T.F__law_draw_step.kp (b__law_draw_step T) (a_name (pv 0) (a_name (pv 4) (a_cons (e_cmp op_ge o_intB (b_var (pv 7)) (b_var (pv 6)) (nomark _)) (a_name (pv 3) a_nil))))))
  (sb_cons (s_set (i := 4) sc__law_draw_report.nd rfl (by first | exact Or.inl rfl | exact Or.inr rfl) (e_if (t_cmp (op_eq2 (hu64 hr)) o_eq2 (EE.eb (e_ix (b_var (pv 8)) (EE.eb e_int) (fun _ _ => rfl))) (EE.eb e_str) (nomark _)) (e_ix (b_var (pv 8)) (EE.eb e_int) (fun _ _ => rfl)) (e_var (pv 4))))
  (sb_one (s_app (pv 5) (e_var (pv 8)))))))
  (sb_cons (s_set (i := 9) sc__law_draw_report.nd rfl (by first | exact Or.inl rfl | exact Or.inr rfl) (e_call (ok__law_take T) (hr.mono (by decide)) (by rfl) T.g__law_take T.F__law_take.kp (b__law_take T) (a_name (pv 0) (a_cons e_int a_nil))))
  (sb_cons (s_set (i := 10) sc__law_draw_report.nd rfl (by first | exact Or.inl rfl | exact Or.inr rfl) (e_or (e_call (ok__law_subset T) (hr.mono (by decide)) (by rfl) T.g__law_subset T.F__law_subset.kp (b__law_subset T) (a_name (pv 0) (a_name (pv 4) a_nil))) (e_one (e_ix (b_var (pv 4)) (EE.eb (e_neg (EE.eb e_int))) (fun _ _ => rfl)))))
  (sb_cons (s_setLc (i := 11) (own := [("column", 12)]) (g := (.nm 12)) rfl sc__law_draw_report.nd rfl rfl (sw_true rfl rfl rfl (by decide +kernel)) (i_seqB (b_var (pv 4))) (blkOk_by (N := N__law_draw_report) (sc := defScope s__law_draw_report) (by decide +kernel)) (by simp [Tg.slots]) (fun _ _ _ _ _ => (g_nm sc__law_draw_report.nd rfl (by first | exact Or.inl rfl | exact Or.inr rfl))) (fun _ _ _ _ _ => (ts_one (t_cmp (opr_ni2 (hu64 hr)) o_ni2 (b_var (pv 12)) (b_var (pv 10)) (by rfl)))) (fun _ _ _ _ _ => (e_var (pv 12))))
  (sb_cons (s_if (t_cmp (op_eq2 (hu64 hr)) o_eq2 (b_var (pv 9)) (EE.eb e_int) (nomark _))
  (sb_one (s_app (pv 5) (e_tup (d_cons e_str (d_cons (e_var (pv 10)) d_nil)))))
  (sb_one (s_if (PW.pt (tw_and (t_cmp (op_eq2 (hu64 hr)) o_eq2 (b_var (pv 9)) (EE.eb e_int) (nomark _)) (pw_and1 (t_cmp (opr_ne2 (hu64 hr)) o_ne2 (b_var (pv 11)) (EE.eb (EF.ee (f_lst d_nil))) (nomark _)))))
  (sb_one (s_app (pv 5) (e_tup (d_cons e_str (d_cons (e_var (pv 10)) (d_cons (e_ix (b_var (pv 11)) (EE.eb (e_call (ok__law_take T) (hr.mono (by decide)) (by rfl) T.g__law_take T.F__law_take.kp (b__law_take T) (a_name (pv 0) (a_cons (e_call1 call_len c_len (by rfl) T.n_len (by decide +kernel) (b_var (pv 11))) a_nil)))) (fun _ _ => rfl)) d_nil))))))
  (sb_one (s_if (t_cmp (op_eq2 (hu64 hr)) o_eq2 (b_var (pv 9)) (EE.eb e_int) (nomark _))
  (sb_one (s_app (pv 5) (e_tup (d_cons e_str (d_cons (e_var (pv 10)) d_nil)))))
  sb_nil)))))
  (sb_one (s_ret (e_ty1 (call_tupA rfl) c_tupA (by rfl) T.n_tuple (by decide +kernel) (b_var (pv 5))))))))))))
end
section
variable {P : Program} {w : World} {K : PySem.W.Frag} {mg : Str → Option Value} {base : Heap}
theorem b__law_fits (T : Txt P w base K mg) : Binds K T.d__law_fits ["schema", "row", "other"] [] := T.F__law_fits.binds fun _ _ _ _ _ _ us hl => match us, hl with | [_, _, _], _ => rfl
theorem ok__law_fits (T : Txt P w base K mg) : FnOk P w K mg base CX0 2 T.a__law_fits T.d__law_fits ["schema", "row", "other"] (spW K w__law_fits) := ok_fn (N := N__law_fits) (k := 1) T.F__law_fits sc__law_fits fun cdv A outer s H E hr => 
  (sb_cons (s_for PassesOwn.never rfl (i_seq false (e_ix (b_var (pv 0)) (EE.eb e_int) (fun _ _ => rfl))) (g_tp rfl (.cons (pg_name sc__law_fits.nd rfl (by first | exact Or.inl rfl | exact Or.inr rfl)) (by rfl) (.cons (pg_name sc__law_fits.nd rfl (by first | exact Or.inl rfl | exact Or.inr rfl)) (by rfl) .nil)))
  (sb_one (s_if (t_cmp (op_eq2 (hu64 hr)) o_eq2 (EE.eb (e_call (ok__law_cells T) (hr.mono (by decide)) (by rfl) T.g__law_cells T.F__law_cells.kp (b__law_cells T) (a_name (pv 0) (a_name (pv 1) (a_name (pv 3) a_nil))))) (EE.eb (e_call (ok__law_cells T) (hr.mono (by decide)) (by rfl) T.g__law_cells T.F__law_cells.kp (b__law_cells T) (a_name (pv 0) (a_name (pv 2) (a_name (pv 3) a_nil))))) (nomark _))
  (sb_one (s_if (t_cmp (opr_ne2 (hu64 hr)) o_ne2 (EE.eb (e_call (ok__law_cells T) (hr.mono (by decide)) (by rfl) T.g__law_cells T.F__law_cells.kp (b__law_cells T) (a_name (pv 0) (a_name (pv 1) (a_name (pv 4) a_nil))))) (EE.eb (e_call (ok__law_cells T) (hr.mono (by decide)) (by rfl) T.g__law_cells T.F__law_cells.kp (b__law_cells T) (a_name (pv 0) (a_name (pv 2) (a_name (pv 4) a_nil))))) (nomark _))
  (sb_one (s_ret e_bl))
  sb_nil))
  sb_nil)))
  (sb_one (s_ret (e_cmp (op_eq2 (hu64 hr)) o_eq2 (EE.eb (EF.ee (f_lc (own := [("one", 5)]) (g := (.nm 5)) rfl sc__law_fits.nd (i_seqB (EE.eb (e_ix (b_var (pv 0)) (EE.eb e_int) (fun _ _ => rfl)))) (blkOk_by (N := N__law_fits) (sc := defScope s__law_fits) (by decide +kernel)) (by simp [Tg.slots]) (fun _ _ _ _ _ => (g_nm sc__law_fits.nd rfl (by first | exact Or.inl rfl | exact Or.inr rfl))) (fun _ _ _ _ _ => (ts_one (t_cmp (op_eq2 (hu64 hr)) o_eq2 (EE.eb (e_call (ok__law_cells T) (hr.mono (by decide)) (by rfl) T.g__law_cells T.F__law_cells.kp (b__law_cells T) (a_name (pv 0) (a_name (pv 1) (a_name (pv 5) a_nil))))) (EE.eb (e_call (ok__law_cells T) (hr.mono (by decide)) (by rfl) T.g__law_cells T.F__law_cells.kp (b__law_cells T) (a_name (pv 0) (a_name (pv 2) (a_name (pv 5) a_nil))))) (nomark _)))) (fun _ _ _ _ _ => (e_var (pv 5)))))) (EE.eb (EF.ee (f_lst d_nil))) (nomark _)))))
end
section
variable {P : Program} {w : World} {K : PySem.W.Frag} {mg : Str → Option Value} {base : Heap}
theorem b__law_draw_table (T : Txt P w base K mg) : Binds K T.d__law_draw_table ["pen", "schema", "most", "size"] [] := T.F__law_draw_table.binds fun _ _ _ _ _ _ us hl => match us, hl with | [_, _, _, _], _ => rfl
theorem ok__law_draw_table (T : Txt P w base K mg) : FnOk P w K mg base CX0 3 T.a__law_draw_table T.d__law_draw_table ["pen", "schema", "most", "size"] (spW K w__law_draw_table) := ok_fn (N := N__law_draw_table) (k := 2) T.F__law_draw_table sc__law_draw_table fun cdv A outer s H E hr => 
  (sb_cons (s_unpLD rfl (pg_name (i := 4) sc__law_draw_table.nd rfl (by first | exact Or.inl rfl | exact Or.inr rfl)) (pg_name (i := 5) sc__law_draw_table.nd rfl (by first | exact Or.inl rfl | exact Or.inr rfl)) (f_lst d_nil) (e_ix (EE.eb (EF.ee (f_lst (d_cons e_int (d_cons e_int (d_cons e_int (d_cons (e_neg (EE.eb e_int)) (d_cons (e_neg (EE.eb e_int)) d_nil)))))))) (EE.eb (e_call (ok__law_take T) (hr.mono (by decide)) (by rfl) T.g__law_take T.F__law_take.kp (b__law_take T) (a_name (pv 0) (a_cons e_int a_nil)))) (fun _ _ => rfl)) (by rfl))
  (sb_cons (s_for PassesOwn.never rfl (i_rng1 false (by rfl) T.n_range (b_var (pv 2))) (g_nm sc__law_draw_table.nd rfl (by first | exact Or.inl rfl | exact Or.inr rfl))
  (sb_cons (s_set (i := 7) sc__law_draw_table.nd rfl (by first | exact Or.inl rfl | exact Or.inr rfl) (e_ty1 (call_tupA rfl) c_tupA (by rfl) T.n_tuple (by decide +kernel) (EE.eb (EF.ee (f_lc (own := [("column", 8)]) (g := (.nm 8)) rfl sc__law_draw_table.nd (i_seqB (EE.eb (e_ix (b_var (pv 1)) (EE.eb e_int) (fun _ _ => rfl)))) (blkOk_by (N := N__law_draw_table) (sc := defScope s__law_draw_table) (by decide +kernel)) (by simp [Tg.slots]) (fun _ _ _ _ _ => (g_nm sc__law_draw_table.nd rfl (by first | exact Or.inl rfl | exact Or.inr rfl))) (fun _ _ _ _ _ => ts_nil) (fun _ _ _ _ _ => (e_op op_sub o_int0 (EE.eb (e_call (ok__law_take T) (hr.mono (by decide)) (by rfl) T.g__law_take T.F__law_take.kp (b__law_take T) (a_name (pv 0) (a_name (pv 3) a_nil)))) (b_var (pv 5)))))))))
  (sb_one (s_if (t_cmp (opr_ni2 (hu64 hr)) o_ni2 (EE.eb e_bl) (EE.eb (EF.ee (f_lc (own := [("other", 9)]) (g := (.nm 9)) rfl sc__law_draw_table.nd (i_seqB (b_var (pv 4))) (blkOk_by (N := N__law_draw_table) (sc := defScope s__law_draw_table) (by decide +kernel)) (by simp [Tg.slots]) (fun _ _ _ _ _ => (g_nm sc__law_draw_table.nd rfl (by first | exact Or.inl rfl | exact Or.inr rfl))) (fun _ _ _ _ _ => ts_nil) (fun _ _ _ _ _ => (e_call (ok__law_fits T) (hr.mono (by decide)) (by rfl) T.g__law_fits T.F__law_fits.kp (b__law_fits T) (a_name (pv 1) (a_name (pv 7) (a_name (pv 9) a_nil)))))))) (by rfl))
  (sb_one (s_app (pv 4) (e_var (pv 7))))
  sb_nil))))
  (sb_one (s_retN (pv 4)))))
end
section
variable {P : Program} {w : World} {K : PySem.W.Frag} {mg : Str → Option Value} {base : Heap}
theorem b_projected (T : Txt P w base K mg) : Binds K T.d_projected ["columns", "part", "rows"] [] := T.F_projected.binds fun _ _ _ _ _ _ us hl => match us, hl with | [_, _, _], _ => rfl
theorem ok_projected (T : Txt P w base K mg) : FnOk P w K mg base CX0 1 T.a_projected T.d_projected ["columns", "part", "rows"] (spW K w_projected) := ok_fn (N := N_projected) (k := 0) T.F_projected sc_projected fun cdv A outer s H E hr => 
  (sb_cons (s_set (i := 3) sc_projected.nd rfl (by first | exact Or.inl rfl | exact Or.inr rfl) (EF.ee (f_lc (own := [("column", 4)]) (g := (.nm 4)) rfl sc_projected.nd (i_seqB (b_var (pv 1))) (blkOk_by (N := N_projected) (sc := defScope s_projected) (by decide +kernel)) (by simp [Tg.slots]) (fun _ _ _ _ _ => (g_nm sc_projected.nd rfl (by first | exact Or.inl rfl | exact Or.inr rfl))) (fun _ _ _ _ _ => ts_nil) (fun _ _ _ _ _ => (e_index (b_var (pv 0)) (b_var (pv 4)))))))
  (sb_one (s_ret (EF.ee (f_lc (own := [("row", 5)]) (g := (.nm 5)) rfl sc_projected.nd (i_seqB (b_var (pv 2))) (blkOk_by (N := N_projected) (sc := defScope s_projected) (by decide +kernel)) (by simp [Tg.slots]) (fun _ _ _ _ _ => (g_nm sc_projected.nd rfl (by first | exact Or.inl rfl | exact Or.inr rfl))) (fun _ _ _ _ _ => ts_nil) (fun _ _ _ _ _ => (e_ty1 (call_tupA rfl) c_tupA (by rfl) T.n_tuple (by decide +kernel) (EE.eb (EF.ee (f_lc (own := [("place", 6)]) (g := (.nm 6)) rfl sc_projected.nd (i_seqB (b_var (pv 3))) (blkOk_by (N := N_projected) (by rfl)) (by simp [Tg.slots]) (fun _ _ _ _ _ => (g_nm sc_projected.nd rfl (by first | exact Or.inl rfl | exact Or.inr rfl))) (fun _ _ _ _ _ => ts_nil) (fun _ _ _ _ _ => (e_ix (b_var (pv 5)) (b_var (pv 6)) (fun _ _ => rfl)))))))))))))
end
section
variable {P : Program} {w : World} {K : PySem.W.Frag} {mg : Str → Option Value} {base : Heap}
theorem b__group_row (T : Txt P w base K mg) : Binds K T.d__group_row ["kept", "step", "values", "rows"] [] := T.F__group_row.binds fun _ _ _ _ _ _ us hl => match us, hl with | [_, _, _, _], _ => rfl
theorem ok__group_row (T : Txt P w base K mg) : FnOk P w K mg base CX0 1 T.a__group_row T.d__group_row ["kept", "step", "values", "rows"] (spW K w__group_row) := ok_fn (N := N__group_row) (k := 0) T.F__group_row sc__group_row fun cdv A outer s H E hr => 
  (sb_cons (s_if (t_cmp (op_eq2 (hu64 hr)) o_eq2 (EE.eb (e_ix (b_var (pv 1)) (EE.eb e_int) (fun _ _ => rfl))) (EE.eb e_str) (nomark _))
  (sb_one (s_ret (e_ix (b_var (pv 3)) (EE.eb e_int) (fun _ _ => rfl))))
  sb_nil)
  (sb_cons (s_if (t_cmp (op_eq2 (hu64 hr)) o_eq2 (EE.eb (e_ix (b_var (pv 1)) (EE.eb e_int) (fun _ _ => rfl))) (EE.eb e_str) (nomark _))
  (sb_one (s_ret (e_op opr_add o_add (b_var (pv 2)) (EE.eb (e_tup (d_cons (e_call1 call_len c_len (by rfl) T.n_len (by decide +kernel) (b_var (pv 3))) d_nil))))))
  sb_nil)
  (sb_cons (s_set (i := 4) sc__group_row.nd rfl (by first | exact Or.inl rfl | exact Or.inr rfl) (e_index (b_var (pv 0)) (EE.eb (e_ix (b_var (pv 1)) (EE.eb e_int) (fun _ _ => rfl)))))
  (sb_one (s_ret (e_op opr_add o_add (b_var (pv 2)) (EE.eb (e_tup (d_cons (e_call1 (cr_sum rfl) c_sum (by rfl) T.n_sum (by decide +kernel) (EE.eb (EF.ee (f_lc (own := [("row", 5)]) (g := (.nm 5)) rfl sc__group_row.nd (i_seqB (b_var (pv 3))) (blkOk_by (N := N__group_row) (sc := defScope s__group_row) (by decide +kernel)) (by simp [Tg.slots]) (fun _ _ _ _ _ => (g_nm sc__group_row.nd rfl (by first | exact Or.inl rfl | exact Or.inr rfl))) (fun _ _ _ _ _ => ts_nil) (fun _ _ _ _ _ => (e_ix (b_var (pv 5)) (b_var (pv 4)) (fun _ _ => rfl))))))) d_nil)))))))))
end
section
variable {P : Program} {w : World} {K : PySem.W.Frag} {mg : Str → Option Value} {base : Heap}
theorem b__grouped (T : Txt P w base K mg) : Binds K T.d__grouped ["kept", "rows", "step"] [] := T.F__grouped.binds fun _ _ _ _ _ _ us hl => match us, hl with | [_, _, _], _ => rfl
theorem ok__grouped (T : Txt P w base K mg) : FnOk P w K mg base CX0 2 T.a__grouped T.d__grouped ["kept", "rows", "step"] (spW K w__grouped) := ok_fn (N := N__grouped) (k := 1) T.F__grouped sc__grouped fun cdv A outer s H E hr => 
  (sb_group (j := 3) (i1 := 4) (i2 := 5) (ik := 0) (is := 2) (ig := 6) (own := [("group", 6)]) (hu64 hr) PassesOwn.never rfl sc__grouped.nd (ps_set (i := 3) sc__grouped.nd rfl (by first | exact Or.inl rfl | exact Or.inr rfl) pe_ownD) (i_zip false (by rfl) T.n_zip (e_call (ok_projected T) (hr.mono (by decide)) (by rfl) T.g_projected T.F_projected.kp (b_projected T) (a_name (pv 0) (a_cons (e_ix (b_var (pv 2)) (EE.eb e_int) (fun _ _ => rfl)) (a_name (pv 1) a_nil)))) (e_var (pv 1))) (g_tp rfl (.cons (pg_name sc__grouped.nd rfl (by first | exact Or.inl rfl | exact Or.inr rfl)) (by rfl) (.cons (pg_name sc__grouped.nd rfl (by first | exact Or.inl rfl | exact Or.inr rfl)) (by rfl) .nil))) (pv 3) (pv 4) (pv 5) ⟨by rfl, by rfl, by rfl, by rfl⟩ (pe_gsort (hu64 hr) rfl (by rfl) T.n_sorted (pv 3)) (blkOk_by (N := N__grouped) (sc := defScope s__grouped) (by decide +kernel)) rfl (fun _ _ _ _ _ => pg_name (i := 6) sc__grouped.nd rfl (by first | exact Or.inl rfl | exact Or.inr rfl)) (fun _ _ _ _ _ => pe_call (ok__group_row T) (hr.mono (by decide)) (by rfl) T.g__group_row T.F__group_row.kp (b__group_row T) .nil pass0 (pa_cons (pv 0) (pa_cons (pv 2) (pa_cons (pv 6) (pa_cons (pe_getT (hu64 hr) (pv 3) (pv 6) (fun _ _ => rfl)) pa_nil))))) (by decide) (by decide) (by decide) (by decide) (by decide) (by decide) (by decide) (by decide) (by decide) (by decide) (by decide) (by decide))
end
section
variable {P : Program} {w : World} {K : PySem.W.Frag} {mg : Str → Option Value} {base : Heap}
theorem b_stable_permutation (T : Txt P w base K mg) : Binds K T.d_stable_permutation ["kept", "rows", "columns"] [] := T.F_stable_permutation.binds fun _ _ _ _ _ _ us hl => match us, hl with | [_, _, _], _ => rfl
theorem ok_stable_permutation (T : Txt P w base K mg) : FnOk P w K mg base CX0 5 T.a_stable_permutation T.d_stable_permutation ["kept", "rows", "columns"] (spW K w_stable_permutation) := ok_fnC (N := N_stable_permutation) (k := 4) T.F_stable_permutation T.h_stable_permutation sc_stable_permutation fun A outer s H E hr => 
  (sb_cons (s_set (i := 3) sc_stable_permutation.nd rfl (by first | exact Or.inl rfl | exact Or.inr rfl) (e_call (ok_projected T) (hr.mono (by decide)) (by rfl) T.g_projected T.F_projected.kp (b_projected T) (a_name (pv 0) (a_name (pv 2) (a_name (pv 1) a_nil)))))
  (sb_one (s_ret (EF.ee (f_sortK (k := 1) (ip := 4) (own := []) rfl (by rfl) T.n_sorted (c_range rfl (by rfl) T.n_range (EE.eb (e_call1 call_len c_len (by rfl) T.n_len (by decide +kernel) (b_var (pv 1))))) (hr.mono (by decide)) T.B_stable_permutation rfl T.m_stable_permutation T.u_stable_permutation (lam1_by (N := N_stable_permutation) (sc := defScope s_stable_permutation) (x := "index") (by decide +kernel)) sc_stable_permutation.nd rfl (fun _ _ _ _ _ => rfl) (fun s H f c hr => (e_ix (b_var (pv 3)) (b_var (pv 4)) (fun _ _ => rfl))))))))
end
section
variable {P : Program} {w : World} {K : PySem.W.Frag} {mg : Str → Option Value} {base : Heap}
theorem b_rows_after (T : Txt P w base K mg) : Binds K T.d_rows_after ["kept", "rows", "step"] [] := T.F_rows_after.binds fun _ _ _ _ _ _ us hl => match us, hl with | [_, _, _], _ => rfl
theorem ok_rows_after (T : Txt P w base K mg) : FnOk P w K mg base CX0 6 T.a_rows_after T.d_rows_after ["kept", "rows", "step"] (spW K w_rows_after_v1) := ok_fn (N := N_rows_after) (k := 5) T.F_rows_after sc_rows_after fun cdv A outer s H E hr => 
  (sb_cons (s_set (i := 3) sc_rows_after.nd rfl (by first | exact Or.inl rfl | exact Or.inr rfl) (e_ix (b_var (pv 2)) (EE.eb e_int) (fun _ _ => rfl)))
  (sb_cons (s_if (t_cmp (opr_in2 (hu64 hr)) o_in2 (b_var (pv 3)) (EE.eb (e_glo (by rfl) T.k_SORTING (fun _ => rv_SORTING T))) (by rfl))
  (sb_one (s_ret (EF.ee (f_lc (own := [("index", 5)]) (g := (.nm 5)) rfl sc_rows_after.nd (i_seqB (EE.eb (e_call (ok_stable_permutation T) (hr.mono (by decide)) (by rfl) T.g_stable_permutation T.F_stable_permutation.kp (b_stable_permutation T) (a_name (pv 0) (a_name (pv 1) (a_cons (e_ix (b_var (pv 2)) (EE.eb e_int) (fun _ _ => rfl)) a_nil)))))) (blkOk_by (N := N_rows_after) (sc := defScope s_rows_after) (by decide +kernel)) (by simp [Tg.slots]) (fun _ _ _ _ _ => (g_nm sc_rows_after.nd rfl (by first | exact Or.inl rfl | exact Or.inr rfl))) (fun _ _ _ _ _ => ts_nil) (fun _ _ _ _ _ => (e_ix (b_var (pv 1)) (b_var (pv 5)) (fun _ _ => rfl)))))))
  sb_nil)
  (sb_cons (s_if (t_cmp (op_eq2 (hu64 hr)) o_eq2 (b_var (pv 3)) (EE.eb e_str) (nomark _))
  (sb_cons (s_set (i := 4) sc_rows_after.nd rfl (by first | exact Or.inl rfl | exact Or.inr rfl) (e_index (b_var (pv 0)) (EE.eb (e_ix (b_var (pv 2)) (EE.eb e_int) (fun _ _ => rfl)))))
  (sb_one (s_ret (EF.ee (f_lc (own := [("row", 6)]) (g := (.nm 6)) rfl sc_rows_after.nd (i_seqB (b_var (pv 1))) (blkOk_by (N := N_rows_after) (sc := defScope s_rows_after) (by decide +kernel)) (by simp [Tg.slots]) (fun _ _ _ _ _ => (g_nm sc_rows_after.nd rfl (by first | exact Or.inl rfl | exact Or.inr rfl))) (fun _ _ _ _ _ => (ts_one (t_cmp (op_eq2 (hu64 hr)) o_eq2 (EE.eb (e_ix (b_var (pv 6)) (b_var (pv 4)) (fun _ _ => rfl))) (EE.eb (e_ix (b_var (pv 2)) (EE.eb e_int) (fun _ _ => rfl))) (nomark _)))) (fun _ _ _ _ _ => (e_var (pv 6))))))))
  sb_nil)
  (sb_cons (s_if (t_cmp (op_eq2 (hu64 hr)) o_eq2 (b_var (pv 3)) (EE.eb e_str) (nomark _))
  (sb_one (s_ret (e_sl (b_var (pv 1)) o_none (o_some (EE.eb (e_ix (b_var (pv 2)) (EE.eb e_int) (fun _ _ => rfl)))))))
  sb_nil)
  (sb_cons (s_if (t_cmp (op_eq2 (hu64 hr)) o_eq2 (b_var (pv 3)) (EE.eb e_str) (nomark _))
  (sb_one (s_ret (e_sl (b_var (pv 1)) (o_some (EE.eb (e_ix (b_var (pv 2)) (EE.eb e_int) (fun _ _ => rfl)))) o_none)))
  sb_nil)
  (sb_cons (s_if (t_cmp (op_eq2 (hu64 hr)) o_eq2 (b_var (pv 3)) (EE.eb e_str) (nomark _))
  (sb_one (s_ret (e_call (ok_projected T) (hr.mono (by decide)) (by rfl) T.g_projected T.F_projected.kp (b_projected T) (a_name (pv 0) (a_cons (e_ix (b_var (pv 2)) (EE.eb e_int) (fun _ _ => rfl)) (a_name (pv 1) a_nil))))))
  sb_nil)
  (sb_one (s_ret (e_call (ok__grouped T) (hr.mono (by decide)) (by rfl) T.g__grouped T.F__grouped.kp (b__grouped T) (a_name (pv 0) (a_name (pv 1) (a_name (pv 2) a_nil))))))))))))
end
section
variable {P : Program} {w : World} {K : PySem.W.Frag} {mg : Str → Option Value} {base : Heap}
theorem b_kept_after (T : Txt P w base K mg) : Binds K T.d_kept_after ["kept", "step"] [] := T.F_kept_after.binds fun _ _ _ _ _ _ us hl => match us, hl with | [_, _], _ => rfl
theorem ok_kept_after (T : Txt P w base K mg) : FnOk P w K mg base CX0 1 T.a_kept_after T.d_kept_after ["kept", "step"] (spW K w_kept_after) := ok_fn (N := N_kept_after) (k := 0) T.F_kept_after sc_kept_after fun cdv A outer s H E hr => 
  (sb_one (s_ret (e_if (t_cmp (op_eq2 (hu64 hr)) o_eq2 (EE.eb (e_ix (b_var (pv 1)) (EE.eb e_int) (fun _ _ => rfl))) (EE.eb e_str) (nomark _)) (e_ix (b_var (pv 1)) (EE.eb e_int) (fun _ _ => rfl)) (e_var (pv 0)))))
end
section
variable {P : Program} {w : World} {K : PySem.W.Frag} {mg : Str → Option Value} {base : Heap}
theorem b_first_script (T : Txt P w base K mg) : Binds K T.d_first_script ["schema", "report", "table"] [] := T.F_first_script.binds fun _ _ _ _ _ _ us hl => match us, hl with | [_, _, _], _ => rfl
theorem ok_first_script (T : Txt P w base K mg) : FnOk P w K mg base CX0 7 T.a_first_script T.d_first_script ["schema", "report", "table"] (spN K w_first_script_o) := ok_fnN (N := N_first_script) (k := 6) T.F_first_script sc_first_script (j := 3) (by decide) fun cdv A outer s H E hr => 
  (nb_first (j := 3) sc_first_script.nd rfl (by first | exact Or.inl rfl | exact Or.inr rfl) (f_listR rfl (by rfl) T.n_list (by rfl) T.n_range (EE.eb (e_call1 call_len c_len (by rfl) T.n_len (by decide +kernel) (b_var (pv 2))))) fun Z => (nb_cons (n'_set (i := 4) (by decide) sc_first_script.nd rfl (by first | exact Or.inl rfl | exact Or.inr rfl) (e_var (pv 2)))
  (nb_cons (n'_set (i := 5) (by decide) sc_first_script.nd rfl (by first | exact Or.inl rfl | exact Or.inr rfl) (e_ix (b_var (pv 0)) (EE.eb e_int) (fun _ _ => rfl)))
  (nb_cons (n'_for (i := 6) (by decide) PassesOwn.never rfl (i_seq false (e_var (pv 1))) (g_nm sc_first_script.nd rfl (by first | exact Or.inl rfl | exact Or.inr rfl))
  (nb_cons (n'_if (t_cmp (op_eq2 (hu64 hr)) o_eq2 (EE.eb (e_ix (b_var (pv 6)) (EE.eb e_int) (fun _ _ => rfl))) (EE.eb e_str) (nomark _))
  (nb_one (n'_app (fun _ _ z => z.app) (pv 3) (e_call (ok_stable_permutation T) (hr.mono (by decide)) (by rfl) T.g_stable_permutation T.F_stable_permutation.kp (b_stable_permutation T) (a_name (pv 5) (a_name (pv 4) (a_cons (e_ix (b_var (pv 6)) (EE.eb e_int) (fun _ _ => rfl)) a_nil))))))
  nb_nil)
  (nb_cons (n'_set (i := 4) (by decide) sc_first_script.nd rfl (by first | exact Or.inl rfl | exact Or.inr rfl) (e_call (ok_rows_after T) (hr.mono (by decide)) (by rfl) T.g_rows_after T.F_rows_after.kp (b_rows_after T) (a_name (pv 5) (a_name (pv 4) (a_name (pv 6) a_nil)))))
  (nb_one (n'_set (i := 5) (by decide) sc_first_script.nd rfl (by first | exact Or.inl rfl | exact Or.inr rfl) (e_call (ok_kept_after T) (hr.mono (by decide)) (by rfl) T.g_kept_after T.F_kept_after.kp (b_kept_after T) (a_name (pv 5) (a_name (pv 6) a_nil))))))))
  (nb_one (n'_retO (pv 3)))))))
end
section
variable {P : Program} {w : World} {K : PySem.W.Frag} {mg : Str → Option Value} {base : Heap}
theorem b__law_same (T : Txt P w base K mg) : Binds K T.d__law_same ["found", "due"] [] := T.F__law_same.binds fun _ _ _ _ _ _ us hl => match us, hl with | [_, _], _ => rfl
theorem ok__law_same (T : Txt P w base K mg) : ∀ d : Nat, FnOk P w K mg base CX0 (d + 1) T.a__law_same T.d__law_same ["found", "due"] (spW K (w__law_same d))
  | 0 => ⟨fun vs H Q E ⟨_, _, _, _, _, _, _, h, _⟩ => h.elim, fun A outer s H args us vs Q E _ _ _ _ ⟨_, _, _, _, _, _, _, h, _⟩ => h.elim⟩
  | d + 1 => ok_fn (N := N__law_same) (k := d + 1) T.F__law_same sc__law_same fun cdv A outer s H E hr => 
  have G := ok__law_same T d
  (sb_cons (s_if (PW.pt (tw_or (t_cmp opr_is o_is (b_var (pv 1)) (EE.eb e_non) (nomark _)) (pw_or1 (t_cmp opr_is o_is (b_var (pv 0)) (EE.eb e_non) (nomark _)))))
  (sb_one (s_ret (e_and (e_cmp opr_is o_is (b_var (pv 1)) (EE.eb e_non) (nomark _)) (e_one (e_cmp opr_is o_is (b_var (pv 0)) (EE.eb e_non) (nomark _))))))
  sb_nil)
  (sb_cons (s_if (PW.pt (tw_or (t_tru (EE.eb (e_isi kit_bool (by rfl) T.n_isinstance (b_var (pv 1)) (pe_bltn (by rfl) T.n_bool (by decide +kernel) rfl))) (by intro _; rfl)) (pw_or1 (t_tru (EE.eb (e_isi kit_bool (by rfl) T.n_isinstance (b_var (pv 0)) (pe_bltn (by rfl) T.n_bool (by decide +kernel) rfl))) (by intro _; rfl)))))
  (sb_one (s_ret (e_and (e_isi kit_bool (by rfl) T.n_isinstance (b_var (pv 1)) (pe_bltn (by rfl) T.n_bool (by decide +kernel) rfl)) (e_and (e_isi kit_bool (by rfl) T.n_isinstance (b_var (pv 0)) (pe_bltn (by rfl) T.n_bool (by decide +kernel) rfl)) (e_one (e_cmp (op_eq2 (hu64 hr)) o_eq2 (b_var (pv 0)) (b_var (pv 1)) (nomark _)))))))
  sb_nil)
  (sb_cons (s_if (t_tru (EE.eb (e_isiT (.cons kit_int (pe_bltn (by rfl) T.n_int (by decide +kernel) rfl) (by rfl) (.cons kit_str (pe_bltn (by rfl) T.n_str (by decide +kernel) rfl) (by rfl) .nil)) (by decide) (by rfl) T.n_isinstance (b_var (pv 1)))) (by intro _; rfl))
  (sb_cons (s_if (t_cmp (opr_ne2 (hu64 hr)) o_ne2 (EE.eb (e_isi kit_int (by rfl) T.n_isinstance (b_var (pv 0)) (pe_bltn (by rfl) T.n_int (by decide +kernel) rfl))) (EE.eb (e_isi kit_int (by rfl) T.n_isinstance (b_var (pv 1)) (pe_bltn (by rfl) T.n_int (by decide +kernel) rfl))) (nomark _))
  (sb_one (s_ret e_bl))
  sb_nil)
  (sb_one (s_ret (e_and (e_isiT (.cons kit_int (pe_bltn (by rfl) T.n_int (by decide +kernel) rfl) (by rfl) (.cons kit_str (pe_bltn (by rfl) T.n_str (by decide +kernel) rfl) (by rfl) .nil)) (by decide) (by rfl) T.n_isinstance (b_var (pv 0))) (e_one (e_cmp (op_eq2 (hu64 hr)) o_eq2 (b_var (pv 0)) (b_var (pv 1)) (nomark _)))))))
  sb_nil)
  (sb_cons (s_if (PW.pt (tw_or (t_cmp (opr_ne2 (hu64 hr)) o_ne2 (EE.eb (e_isi kit_tuple (by rfl) T.n_isinstance (b_var (pv 1)) (pe_bltn (by rfl) T.n_tuple (by decide +kernel) rfl))) (EE.eb (e_isi kit_tuple (by rfl) T.n_isinstance (b_var (pv 0)) (pe_bltn (by rfl) T.n_tuple (by decide +kernel) rfl))) (nomark _)) (pw_or1 (t_cmp (opr_ne2 (hu64 hr)) o_ne2 (EE.eb (e_isi kit_list (by rfl) T.n_isinstance (b_var (pv 1)) (pe_bltn (by rfl) T.n_list (by decide +kernel) rfl))) (EE.eb (e_isi kit_list (by rfl) T.n_isinstance (b_var (pv 0)) (pe_bltn (by rfl) T.n_list (by decide +kernel) rfl))) (nomark _)))))
  (sb_one (s_ret e_bl))
  sb_nil)
  (sb_cons (s_if (t_cmp (opr_ne2 (hu64 hr)) o_ne2 (EE.eb (e_call1 call_len c_len (by rfl) T.n_len (by decide +kernel) (b_var (pv 0)))) (EE.eb (e_call1 call_len c_len (by rfl) T.n_len (by decide +kernel) (b_var (pv 1)))) (nomark _))
  (sb_one (s_ret e_bl))
  sb_nil)
  (sb_one (s_ret (e_cmp (opr_ni2 (hu64 hr)) o_ni2 (EE.eb e_bl) (EE.eb (EF.ee (f_lc (own := [("one", 2), ("other", 3)]) (g := (.tp [2, 3])) rfl sc__law_same.nd (i_zipB (by rfl) T.n_zip (b_var (pv 0)) (b_var (pv 1))) (blkOk_by (N := N__law_same) (sc := defScope s__law_same) (by decide +kernel)) (by simp [Tg.slots]) (fun _ _ _ _ _ => (g_tp rfl (.cons (pg_name sc__law_same.nd rfl (by first | exact Or.inl rfl | exact Or.inr rfl)) (by rfl) (.cons (pg_name sc__law_same.nd rfl (by first | exact Or.inl rfl | exact Or.inr rfl)) (by rfl) .nil)))) (fun _ _ _ _ _ => ts_nil) (fun _ _ _ _ _ => (e_call G hr (by rfl) T.g__law_same T.F__law_same.kp (b__law_same T) (a_name (pv 2) (a_name (pv 3) a_nil))))))) (by rfl)))))))))
end
section
variable {P : Program} {w : World} {K : PySem.W.Frag} {mg : Str → Option Value} {base : Heap}
theorem b_is_plain_integer (T : Txt P w base K mg) : Binds K T.d_is_plain_integer ["value"] [] := T.F_is_plain_integer.binds fun _ _ _ _ _ _ us hl => match us, hl with | [_], _ => rfl
theorem ok_is_plain_integer (T : Txt P w base K mg) : FnOk P w K mg base CX0 1 T.a_is_plain_integer T.d_is_plain_integer ["value"] (spW K w_is_plain_integer) := ok_fn (N := N_is_plain_integer) (k := 0) T.F_is_plain_integer sc_is_plain_integer fun cdv A outer s H E hr => 
  (sb_one (s_ret (e_and (e_isi kit_int (by rfl) T.n_isinstance (b_var (pv 0)) (pe_bltn (by rfl) T.n_int (by decide +kernel) rfl)) (e_one (e_not (EE.eb (e_isi kit_bool (by rfl) T.n_isinstance (b_var (pv 0)) (pe_bltn (by rfl) T.n_bool (by decide +kernel) rfl))))))))
end
section
variable {P : Program} {w : World} {K : PySem.W.Frag} {mg : Str → Option Value} {base : Heap}
theorem b_is_permutation (T : Txt P w base K mg) : Binds K T.d_is_permutation ["count", "value"] [] := T.F_is_permutation.binds fun _ _ _ _ _ _ us hl => match us, hl with | [_, _], _ => rfl
theorem ok_is_permutation (T : Txt P w base K mg) : FnOk P w K mg base CX0 2 T.a_is_permutation T.d_is_permutation ["count", "value"] (spW K w_is_permutation) := ok_fn (N := N_is_permutation) (k := 1) T.F_is_permutation sc_is_permutation fun cdv A outer s H E hr => 
  (sb_cons (s_if (PW.pt (tw_or (t_not (t_tru (EE.eb (e_isi kit_list (by rfl) T.n_isinstance (b_var (pv 1)) (pe_bltn (by rfl) T.n_list (by decide +kernel) rfl))) (by intro _; rfl))) (pw_or1 (t_cmp (opr_ne2 (hu64 hr)) o_ne2 (EE.eb (e_call1 call_len c_len (by rfl) T.n_len (by decide +kernel) (b_var (pv 1)))) (b_var (pv 0)) (nomark _)))))
  (sb_one (s_ret e_bl))
  sb_nil)
  (sb_one (s_ret (e_and (e_call1 (cr_all rfl) c_all (by rfl) T.n_all (by decide +kernel) (EE.eb (EF.ee (f_lc (own := [("index", 2)]) (g := (.nm 2)) rfl sc_is_permutation.nd (i_seqB (b_var (pv 1))) (blkOk_by (N := N_is_permutation) (sc := defScope s_is_permutation) (by decide +kernel)) (by simp [Tg.slots]) (fun _ _ _ _ _ => (g_nm sc_is_permutation.nd rfl (by first | exact Or.inl rfl | exact Or.inr rfl))) (fun _ _ _ _ _ => ts_nil) (fun _ _ _ _ _ => (e_call (ok_is_plain_integer T) (hr.mono (by decide)) (by rfl) T.g_is_plain_integer T.F_is_plain_integer.kp (b_is_plain_integer T) (a_name (pv 2) a_nil))))))) (e_one (e_cmp (op_eq2 (hu64 hr)) o_eq2 (EE.eb (EF.ee (f_sortD (hu64 hr) rfl (by rfl) T.n_sorted (b_var (pv 1))))) (EE.eb (EF.ee (f_listR rfl (by rfl) T.n_list (by rfl) T.n_range (b_var (pv 0))))) (nomark _)))))))
end
section
variable {P : Program} {w : World} {K : PySem.W.Frag} {mg : Str → Option Value} {base : Heap}
theorem b__permuted (T : Txt P w base K mg) : Binds K T.d__permuted ["rows", "value"] [] := T.F__permuted.binds fun _ _ _ _ _ _ us hl => match us, hl with | [_, _], _ => rfl
theorem ok__permuted (T : Txt P w base K mg) : FnOk P w K mg base CX0 3 T.a__permuted T.d__permuted ["rows", "value"] (spW K w__permuted) := ok_fn (N := N__permuted) (k := 2) T.F__permuted sc__permuted fun cdv A outer s H E hr => 
  (sb_cons (s_if (t_not (t_tru (EE.eb (e_call (ok_is_permutation T) (hr.mono (by decide)) (by rfl) T.g_is_permutation T.F_is_permutation.kp (b_is_permutation T) (a_cons (e_call1 call_len c_len (by rfl) T.n_len (by decide +kernel) (b_var (pv 0))) (a_name (pv 1) a_nil)))) (by intro _; rfl)))
  (sb_one s_never)
  sb_nil)
  (sb_one (s_ret (EF.ee (f_lc (own := [("index", 2)]) (g := (.nm 2)) rfl sc__permuted.nd (i_seqB (b_var (pv 1))) (blkOk_by (N := N__permuted) (sc := defScope s__permuted) (by decide +kernel)) (by simp [Tg.slots]) (fun _ _ _ _ _ => (g_nm sc__permuted.nd rfl (by first | exact Or.inl rfl | exact Or.inr rfl))) (fun _ _ _ _ _ => ts_nil) (fun _ _ _ _ _ => (e_ix (b_var (pv 0)) (b_var (pv 2)) (fun _ _ => rfl))))))))
end
section
variable {P : Program} {w : World} {K : PySem.W.Frag} {mg : Str → Option Value} {base : Heap}
theorem b__sorted_by_script (T : Txt P w base K mg) : Binds K T.d__sorted_by_script ["kept", "rows", "columns", "value"] [] := T.F__sorted_by_script.binds fun _ _ _ _ _ _ us hl => match us, hl with | [_, _, _, _], _ => rfl
theorem ok__sorted_by_script (T : Txt P w base K mg) : FnOk P w K mg base CX0 4 T.a__sorted_by_script T.d__sorted_by_script ["kept", "rows", "columns", "value"] (spW K w__sorted_by_script) := ok_fn (N := N__sorted_by_script) (k := 3) T.F__sorted_by_script sc__sorted_by_script fun cdv A outer s H E hr => 
  (sb_cons (s_set (i := 4) sc__sorted_by_script.nd rfl (by first | exact Or.inl rfl | exact Or.inr rfl) (e_call (ok__permuted T) (hr.mono (by decide)) (by rfl) T.g__permuted T.F__permuted.kp (b__permuted T) (a_name (pv 1) (a_name (pv 3) a_nil))))
  (sb_cons (s_set (i := 5) sc__sorted_by_script.nd rfl (by first | exact Or.inl rfl | exact Or.inr rfl) (e_call (ok_projected T) (hr.mono (by decide)) (by rfl) T.g_projected T.F_projected.kp (b_projected T) (a_name (pv 0) (a_name (pv 2) (a_name (pv 4) a_nil)))))
  (sb_cons (s_if (t_cmp (opr_ne2 (hu64 hr)) o_ne2 (b_var (pv 5)) (EE.eb (EF.ee (f_sortD (hu64 hr) rfl (by rfl) T.n_sorted (b_var (pv 5))))) (nomark _))
  (sb_one s_never)
  sb_nil)
  (sb_one (s_ret (e_var (pv 4)))))))
end
section
variable {P : Program} {w : World} {K : PySem.W.Frag} {mg : Str → Option Value} {base : Heap}
theorem b_run (T : Txt P w base K mg) : Binds K T.d_run ["schema", "report", "table", "script"] [] := T.F_run.binds fun _ _ _ _ _ _ us hl => match us, hl with | [_, _, _, _], _ => rfl
theorem ok_run (T : Txt P w base K mg) : FnOk P w K mg base CX0 7 T.a_run T.d_run ["schema", "report", "table", "script"] (spW K w_run_v1) := ok_fn (N := N_run) (k := 6) T.F_run sc_run fun cdv A outer s H E hr => 
  (sb_cons (s_setLc (i := 4) (own := [("step", 8)]) (g := (.nm 8)) rfl sc_run.nd rfl rfl (sw_true rfl rfl rfl (by decide +kernel)) (i_seqB (b_var (pv 1))) (blkOk_by (N := N_run) (sc := defScope s_run) (by decide +kernel)) (by simp [Tg.slots]) (fun _ _ _ _ _ => (g_nm sc_run.nd rfl (by first | exact Or.inl rfl | exact Or.inr rfl))) (fun _ _ _ _ _ => (ts_one (t_cmp (op_eq2 (hu64 hr)) o_eq2 (EE.eb (e_ix (b_var (pv 8)) (EE.eb e_int) (fun _ _ => rfl))) (EE.eb e_str) (nomark _)))) (fun _ _ _ _ _ => (e_var (pv 8))))
  (sb_cons (s_if (PW.pt (tw_or (t_not (t_tru (EE.eb (e_isi kit_list (by rfl) T.n_isinstance (b_var (pv 3)) (pe_bltn (by rfl) T.n_list (by decide +kernel) rfl))) (by intro _; rfl))) (pw_or1 (t_cmp (opr_ne2 (hu64 hr)) o_ne2 (EE.eb (e_call1 call_len c_len (by rfl) T.n_len (by decide +kernel) (b_var (pv 3)))) (EE.eb (e_op opr_add o_add (EE.eb e_int) (EE.eb (e_call1 call_len c_len (by rfl) T.n_len (by decide +kernel) (b_var (pv 4)))))) (nomark _)))))
  (sb_one s_never)
  sb_nil)
  (sb_cons (s_set (i := 5) sc_run.nd rfl (by first | exact Or.inl rfl | exact Or.inr rfl) (e_call (ok__permuted T) (hr.mono (by decide)) (by rfl) T.g__permuted T.F__permuted.kp (b__permuted T) (a_name (pv 2) (a_cons (e_ix (b_var (pv 3)) (EE.eb e_int) (fun _ _ => rfl)) a_nil))))
  (sb_cons (s_set (i := 6) sc_run.nd rfl (by first | exact Or.inl rfl | exact Or.inr rfl) (e_ix (b_var (pv 0)) (EE.eb e_int) (fun _ _ => rfl)))
  (sb_cons (s_set (i := 7) sc_run.nd rfl (by first | exact Or.inl rfl | exact Or.inr rfl) e_int)
  (sb_cons (s_for PassesOwn.never rfl (i_seq false (e_var (pv 1))) (g_nm sc_run.nd rfl (by first | exact Or.inl rfl | exact Or.inr rfl))
  (sb_cons (s_if (t_cmp (op_eq2 (hu64 hr)) o_eq2 (EE.eb (e_ix (b_var (pv 8)) (EE.eb e_int) (fun _ _ => rfl))) (EE.eb e_str) (nomark _))
  (sb_cons (s_set (i := 5) sc_run.nd rfl (by first | exact Or.inl rfl | exact Or.inr rfl) (e_call (ok__sorted_by_script T) (hr.mono (by decide)) (by rfl) T.g__sorted_by_script T.F__sorted_by_script.kp (b__sorted_by_script T) (a_name (pv 6) (a_name (pv 5) (a_cons (e_ix (b_var (pv 8)) (EE.eb e_int) (fun _ _ => rfl)) (a_cons (e_ix (b_var (pv 3)) (b_var (pv 7)) (fun _ _ => rfl)) a_nil))))))
  (sb_one (s_augI (i := 7) sc_run.nd rfl (by first | exact Or.inl rfl | exact Or.inr rfl) e_int)))
  (sb_one (s_set (i := 5) sc_run.nd rfl (by first | exact Or.inl rfl | exact Or.inr rfl) (e_call (ok_rows_after T) (hr.mono (by decide)) (by rfl) T.g_rows_after T.F_rows_after.kp (b_rows_after T) (a_name (pv 6) (a_name (pv 5) (a_name (pv 8) a_nil)))))))
  (sb_one (s_set (i := 6) sc_run.nd rfl (by first | exact Or.inl rfl | exact Or.inr rfl) (e_call (ok_kept_after T) (hr.mono (by decide)) (by rfl) T.g_kept_after T.F_kept_after.kp (b_kept_after T) (a_name (pv 6) (a_name (pv 8) a_nil)))))))
  (sb_one (s_ret (e_var (pv 5))))))))))
end
section
variable {P : Program} {w : World} {K : PySem.W.Frag} {mg : Str → Option Value} {base : Heap}
theorem b__law_kept (T : Txt P w base K mg) : Binds K T.d__law_kept ["schema", "report"] [] := T.F__law_kept.binds fun _ _ _ _ _ _ us hl => match us, hl with | [_, _], _ => rfl
theorem ok__law_kept (T : Txt P w base K mg) : FnOk P w K mg base CX0 1 T.a__law_kept T.d__law_kept ["schema", "report"] (spW K w__law_kept) := ok_fn (N := N__law_kept) (k := 0) T.F__law_kept sc__law_kept fun cdv A outer s H E hr => 
  (sb_cons (s_set (i := 2) sc__law_kept.nd rfl (by first | exact Or.inl rfl | exact Or.inr rfl) (e_ix (b_var (pv 0)) (EE.eb e_int) (fun _ _ => rfl)))
  (sb_cons (s_for PassesOwn.never rfl (i_seq false (e_var (pv 1))) (g_nm sc__law_kept.nd rfl (by first | exact Or.inl rfl | exact Or.inr rfl))
  (sb_one (s_set (i := 2) sc__law_kept.nd rfl (by first | exact Or.inl rfl | exact Or.inr rfl) (e_if (t_cmp (op_eq2 (hu64 hr)) o_eq2 (EE.eb (e_ix (b_var (pv 3)) (EE.eb e_int) (fun _ _ => rfl))) (EE.eb e_str) (nomark _)) (e_ix (b_var (pv 3)) (EE.eb e_int) (fun _ _ => rfl)) (e_var (pv 2))))))
  (sb_one (s_ret (e_var (pv 2))))))
end
section
variable {P : Program} {w : World} {K : PySem.W.Frag} {mg : Str → Option Value} {base : Heap}
theorem b__law_ended (T : Txt P w base K mg) : Binds K T.d__law_ended ["schema", "report", "rows"] [] := T.F__law_ended.binds fun _ _ _ _ _ _ us hl => match us, hl with | [_, _, _], _ => rfl
theorem ok__law_ended (T : Txt P w base K mg) : FnOk P w K mg base CX0 2 T.a__law_ended T.d__law_ended ["schema", "report", "rows"] (spW K w__law_ended) := ok_fn (N := N__law_ended) (k := 1) T.F__law_ended sc__law_ended fun cdv A outer s H E hr => 
  (sb_cons (s_set (i := 3) sc__law_ended.nd rfl (by first | exact Or.inl rfl | exact Or.inr rfl) (e_call (ok__law_kept T) (hr.mono (by decide)) (by rfl) T.g__law_kept T.F__law_kept.kp (b__law_kept T) (a_name (pv 0) (a_name (pv 1) a_nil))))
  (sb_cons (s_if (PW.pt (tw_or (t_cmp (op_eq2 (hu64 hr)) o_eq2 (b_var (pv 1)) (EE.eb (e_tup d_nil)) (nomark _)) (pw_or1 (t_cmp (opr_ni2 (hu64 hr)) o_ni2 (EE.eb (e_ix (EE.eb (e_ix (b_var (pv 1)) (EE.eb (e_neg (EE.eb e_int))) (fun _ _ => rfl))) (EE.eb e_int) (fun _ _ => rfl))) (EE.eb (EF.ee (f_lst (d_cons e_str (d_cons e_str (d_cons e_str d_nil)))))) (by rfl)))))
  (sb_one (s_ret (EF.ee (f_lc (own := [("row", 9)]) (g := (.nm 9)) rfl sc__law_ended.nd (i_seqB (b_var (pv 2))) (blkOk_by (N := N__law_ended) (sc := defScope s__law_ended) (by decide +kernel)) (by simp [Tg.slots]) (fun _ _ _ _ _ => (g_nm sc__law_ended.nd rfl (by first | exact Or.inl rfl | exact Or.inr rfl))) (fun _ _ _ _ _ => ts_nil) (fun _ _ _ _ _ => (e_ty1 (call_tupA rfl) c_tupA (by rfl) T.n_tuple (by decide +kernel) (EE.eb (e_call (ok__law_cells T) (hr.mono (by decide)) (by rfl) T.g__law_cells T.F__law_cells.kp (b__law_cells T) (a_name (pv 0) (a_name (pv 9) (a_name (pv 3) a_nil)))))))))))
  sb_nil)
  (sb_cons (s_unpDL rfl (pg_name (i := 4) sc__law_ended.nd rfl (by first | exact Or.inl rfl | exact Or.inr rfl)) (pg_name (i := 5) sc__law_ended.nd rfl (by first | exact Or.inl rfl | exact Or.inr rfl)) (e_ix (b_var (pv 1)) (EE.eb (e_neg (EE.eb e_int))) (fun _ _ => rfl)) (f_lst d_nil) (by rfl))
  (sb_cons (s_set (i := 6) sc__law_ended.nd rfl (by first | exact Or.inl rfl | exact Or.inr rfl) (EF.ee (f_sortSetT (hu64 hr) rfl (by rfl) T.n_sorted (by rfl) T.n_set (EE.eb (EF.ee (f_lc (own := [("row", 9)]) (g := (.nm 9)) rfl sc__law_ended.nd (i_seqB (b_var (pv 2))) (blkOk_by (N := N__law_ended) (sc := defScope s__law_ended) (by decide +kernel)) (by simp [Tg.slots]) (fun _ _ _ _ _ => (g_nm sc__law_ended.nd rfl (by first | exact Or.inl rfl | exact Or.inr rfl))) (fun _ _ _ _ _ => ts_nil) (fun _ _ _ _ _ => (e_ty1 (call_tupA rfl) c_tupA (by rfl) T.n_tuple (by decide +kernel) (EE.eb (e_call (ok__law_cells T) (hr.mono (by decide)) (by rfl) T.g__law_cells T.F__law_cells.kp (b__law_cells T) (a_name (pv 0) (a_name (pv 9) (a_cons (e_ix (b_var (pv 4)) (EE.eb e_int) (fun _ _ => rfl)) a_nil)))))))))))))
  (sb_cons (s_for PassesOwn.never rfl (i_seq false (e_var (pv 6))) (g_nm sc__law_ended.nd rfl (by first | exact Or.inl rfl | exact Or.inr rfl))
  (sb_cons (s_setLc (i := 8) (own := [("row", 9)]) (g := (.nm 9)) rfl sc__law_ended.nd rfl rfl (sw_true rfl rfl rfl (by decide +kernel)) (i_seqB (b_var (pv 2))) (blkOk_by (N := N__law_ended) (sc := defScope s__law_ended) (by decide +kernel)) (by simp [Tg.slots]) (fun _ _ _ _ _ => (g_nm sc__law_ended.nd rfl (by first | exact Or.inl rfl | exact Or.inr rfl))) (fun _ _ _ _ _ => (ts_one (t_cmp (op_eq2 (hu64 hr)) o_eq2 (EE.eb (e_ty1 (call_tupA rfl) c_tupA (by rfl) T.n_tuple (by decide +kernel) (EE.eb (e_call (ok__law_cells T) (hr.mono (by decide)) (by rfl) T.g__law_cells T.F__law_cells.kp (b__law_cells T) (a_name (pv 0) (a_name (pv 9) (a_cons (e_ix (b_var (pv 4)) (EE.eb e_int) (fun _ _ => rfl)) a_nil))))))) (b_var (pv 7)) (nomark _)))) (fun _ _ _ _ _ => (e_var (pv 9))))
  (sb_one (s_if (t_cmp (op_eq2 (hu64 hr)) o_eq2 (EE.eb (e_ix (b_var (pv 4)) (EE.eb e_int) (fun _ _ => rfl))) (EE.eb e_str) (nomark _))
  (sb_one (s_app (pv 5) (e_ty1 (call_tupA rfl) c_tupA (by rfl) T.n_tuple (by decide +kernel) (EE.eb (e_call (ok__law_cells T) (hr.mono (by decide)) (by rfl) T.g__law_cells T.F__law_cells.kp (b__law_cells T) (a_name (pv 0) (a_cons (e_ix (b_var (pv 8)) (EE.eb e_int) (fun _ _ => rfl)) (a_name (pv 3) a_nil))))))))
  (sb_one (s_if (t_cmp (op_eq2 (hu64 hr)) o_eq2 (EE.eb (e_ix (b_var (pv 4)) (EE.eb e_int) (fun _ _ => rfl))) (EE.eb e_str) (nomark _))
  (sb_one (s_app (pv 5) (e_op opr_add o_add (b_var (pv 7)) (EE.eb (e_tup (d_cons (e_call1 call_len c_len (by rfl) T.n_len (by decide +kernel) (b_var (pv 8))) d_nil))))))
  (sb_one (s_app (pv 5) (e_op opr_add o_add (b_var (pv 7)) (EE.eb (e_tup (d_cons (e_call1 (cr_sum rfl) c_sum (by rfl) T.n_sum (by decide +kernel) (EE.eb (EF.ee (f_lc (own := [("row", 9)]) (g := (.nm 9)) rfl sc__law_ended.nd (i_seqB (b_var (pv 8))) (blkOk_by (N := N__law_ended) (sc := defScope s__law_ended) (by decide +kernel)) (by simp [Tg.slots]) (fun _ _ _ _ _ => (g_nm sc__law_ended.nd rfl (by first | exact Or.inl rfl | exact Or.inr rfl))) (fun _ _ _ _ _ => ts_nil) (fun _ _ _ _ _ => (e_ix (EE.eb (e_call (ok__law_cells T) (hr.mono (by decide)) (by rfl) T.g__law_cells T.F__law_cells.kp (b__law_cells T) (a_name (pv 0) (a_name (pv 9) (a_cons (e_ix (b_var (pv 4)) (EE.eb e_int) (fun _ _ => rfl)) a_nil))))) (EE.eb e_int) (fun _ _ => rfl))))))) d_nil))))))))))))
  (sb_one (s_retN (pv 5))))))))
end
section
variable {P : Program} {w : World} {K : PySem.W.Frag} {mg : Str → Option Value} {base : Heap}
theorem ok_law (T : Txt P w base K mg) (holds : LawHolds) : TopOk P w K mg base 10 T.a_law T.d_law ["script"] (spLawTop K) := by
  refine top_ok T.F_law sc_law (fun vs H Q E h => ?_) (fun cdv A outer s H vs Q E hr NS h => ?_)
  · obtain ⟨a, ns, rfl, _⟩ := h
    rfl
  · obtain ⟨a, ns, rfl, hS, hlen, ht, q⟩ := h
    refine ⟨_, pss_cons (ps_set (i := 1) sc_law.nd rfl (by first | exact Or.inl rfl | exact Or.inr rfl) (pe_call (ok__law_open T) (hr.mono (by decide)) (by rfl) T.g__law_open T.F__law_open.kp (b__law_open T) .nil pass0 (pa_cons (pv 0) pa_nil)))
      (show SB _ _ t_law from (sb_cons (s_for PassesOwn.never rfl (i_rng1 false (by rfl) T.n_range (EE.eb e_int)) (g_nm sc_law.nd rfl (by first | exact Or.inl rfl | exact Or.inr rfl))
  (sb_cons (s_set (i := 3) sc_law.nd rfl (by first | exact Or.inl rfl | exact Or.inr rfl) (e_call (ok__law_draw_schema T) (hr.mono (by decide)) (by rfl) T.g__law_draw_schema T.F__law_draw_schema.kp (b__law_draw_schema T) (a_name (pv 1) (a_cons e_int a_nil))))
  (sb_cons (s_par rfl sc_law.nd (i := 4) (j := 5) rfl rfl (by decide) rfl rfl (e_call (ok__law_draw_report T) (hr.mono (by decide)) (by rfl) T.g__law_draw_report T.F__law_draw_report.kp (b__law_draw_report T) (a_name (pv 1) (a_name (pv 3) (a_cons e_int (a_cons e_int a_nil))))) (e_call (ok__law_draw_table T) (hr.mono (by decide)) (by rfl) T.g__law_draw_table T.F__law_draw_table.kp (b__law_draw_table T) (a_name (pv 1) (a_name (pv 3) (a_cons e_int (a_cons (e_op opr_add o_add (EE.eb e_int) (EE.eb (e_call (ok__law_take T) (hr.mono (by decide)) (by rfl) T.g__law_take T.F__law_take.kp (b__law_take T) (a_name (pv 1) (a_cons e_int a_nil))))) a_nil))))) (by rfl))
  (sb_cons (s_set (i := 6) sc_law.nd rfl (by first | exact Or.inl rfl | exact Or.inr rfl) (e_repr2 NS (hu64 hr) (by rfl) T.n_repr (e_tup (d_cons (e_var (pv 3)) (d_cons (e_var (pv 4)) (d_cons (e_var (pv 5)) d_nil))))))
  (sb_cons (s_asg (e_call (ok__law_first T) (hr.mono (by decide)) (by rfl) T.g__law_first T.F__law_first.kp (b__law_first T) (a_name (pv 3) (a_name (pv 4) (a_name (pv 5) a_nil)))) (g_tp rfl (.cons (pg_name sc_law.nd rfl (by first | exact Or.inl rfl | exact Or.inr rfl)) (by rfl) (.cons (pg_name sc_law.nd rfl (by first | exact Or.inl rfl | exact Or.inr rfl)) (by rfl) .nil))))
  (sb_cons (s_for PassesOwn.never rfl (i_rng1 false (by rfl) T.n_range (EE.eb e_int)) (g_nm sc_law.nd rfl (by first | exact Or.inl rfl | exact Or.inr rfl))
  (sb_told (i := 10) (ok_first_script T) (hr.mono (by decide)) (by rfl) T.g_first_script T.F_first_script.kp (b_first_script T) (a_name (pv 3) (a_name (pv 4) (a_name (pv 5) a_nil))) sc_law.nd rfl (by first | exact Or.inl rfl | exact Or.inr rfl) (t_not (t_tru (EE.eb (e_call (ok__law_same T 8) (hr.mono (by decide)) (by rfl) T.g__law_same T.F__law_same.kp (b__law_same T) (a_name (pv 10) (a_name (pv 7) a_nil)))) (by intro _; rfl))) (sb_one (s_ret e_bl)) (t_not (t_tru (EE.eb (e_call (ok__law_same T 8) (hr.mono (by decide)) (by rfl) T.g__law_same T.F__law_same.kp (b__law_same T) (a_cons (e_call (ok_run T) (hr.mono (by decide)) (by rfl) T.g_run T.F_run.kp (b_run T) (a_name (pv 3) (a_name (pv 4) (a_name (pv 5) (a_name (pv 10) a_nil))))) (a_cons (e_call (ok__law_ended T) (hr.mono (by decide)) (by rfl) T.g__law_ended T.F__law_ended.kp (b__law_ended T) (a_name (pv 3) (a_name (pv 4) (a_name (pv 8) a_nil)))) a_nil)))) (by intro _; rfl))) (sb_one (s_ret e_bl)) (pv 10) (pv 10) pe_int (fun _ _ => rfl) pe_int))
  (sb_one (s_if (t_cmp (opr_ne2 (hu64 hr)) o_ne2 (EE.eb (e_repr2 NS (hu64 hr) (by rfl) T.n_repr (e_tup (d_cons (e_var (pv 3)) (d_cons (e_var (pv 4)) (d_cons (e_var (pv 5)) d_nil)))))) (b_var (pv 6)) (nomark _))
  (sb_one (s_ret e_bl))
  sb_nil))))))))
  (sb_one (s_ret e_bl)))), ?_⟩
    refine ⟨.ref a, rfl, a, ns, rfl, hS, hlen, fun H' pa ca cells sm ne hpa hca h1 h2 h3 => ?_⟩
    refine ⟨some ⟨pa, ca, tabF K⟩, fun _ => none, H', fun _ => none, _, _, _, law_rep (N := N_law) (ip := 1) (by decide) ne h1 h2 h3 (fun p hp => sm _ _ (ht p hp)), holds, fun σ' F' H2 env' b' rep' => ⟨fun z => z.elim, fun z => z, fun z => z⟩, fun v d F' H2 b' o' x' rv e => by subst e; cases rv; exact q _, fun _ _ _ _ _ _ _ _ _ z => z.elim⟩
end
end Lw
namespace Lw
open PySem PySem.Spec PyProof.Rows L2 Pu
theorem facts {P : Program} {w : World} {K : PySem.W.Frag} {h : Heap} {mg : Str → Option Value} {f : Addr} (holds : LawHolds) (X : K.In h) (cc : SaysH fa fn tb tq h K) (G : h.Ns mainGlobals mg) (hfa : mg ("law" : Str) = some (.ref f)) :
    ∃ (K' : PySem.W.Frag) (fd : FuncData), (∀ b, K'.lookup b = K.lookup b) ∧ tabF K' = tabAt K tq ∧ (∀ (s : Shared) (v : Value), BindsTo s fd ⟨[v], []⟩ [("script", v)]) ∧ ∀ base : Heap, K'.In base → base.Ns mainGlobals mg → (∀ p ∈ codesT K tq, LamX.TabB base mg p.1 p.2) → TopOk P w K' mg base 10 f fd ["script"] (spLawTop K') := by
  have c := cc.c
  obtain ⟨fd0, F0⟩ := c.def_ 0 (d := f__law_open) rfl
  obtain ⟨fd1, F1⟩ := c.def_ 1 (d := f__law_spread) rfl
  obtain ⟨fd2, F2⟩ := c.def_ 2 (d := f__law_take) rfl
  obtain ⟨fd3, F3⟩ := c.def_ 3 (d := f__law_subset) rfl
  obtain ⟨fd4, F4⟩ := c.def_ 4 (d := f__law_draw_schema) rfl
  obtain ⟨fd5, F5⟩ := c.def_ 5 (d := f__law_cells) rfl
  obtain ⟨fd6, F6⟩ := c.def_ 6 (d := f__law_one_way) rfl
  obtain ⟨fd7, F7⟩ := c.def_ 7 (d := f__law_first) rfl
  obtain ⟨fd8, F8⟩ := c.def_ 8 (d := f__law_mixed) rfl
  obtain ⟨fd9, F9⟩ := c.def_ 9 (d := f__law_draw_step) rfl
  obtain ⟨fd10, F10⟩ := c.def_ 10 (d := f__law_draw_report) rfl
  obtain ⟨fd11, F11⟩ := c.def_ 11 (d := f__law_fits) rfl
  obtain ⟨fd12, F12⟩ := c.def_ 12 (d := f__law_draw_table) rfl
  obtain ⟨fd13, F13⟩ := c.def_ 13 (d := f_projected) rfl
  obtain ⟨fd14, F14⟩ := c.def_ 14 (d := f__group_row) rfl
  obtain ⟨fd15, F15⟩ := c.def_ 15 (d := f__grouped) rfl
  obtain ⟨fd16, F16⟩ := c.def_ 16 (d := f_stable_permutation) rfl
  obtain ⟨fd17, F17⟩ := c.def_ 17 (d := f_rows_after) rfl
  obtain ⟨fd18, F18⟩ := c.def_ 18 (d := f_kept_after) rfl
  obtain ⟨fd19, F19⟩ := c.def_ 19 (d := f_first_script) rfl
  obtain ⟨fd20, F20⟩ := c.def_ 20 (d := f__law_same) rfl
  obtain ⟨fd21, F21⟩ := c.def_ 21 (d := f_is_plain_integer) rfl
  obtain ⟨fd22, F22⟩ := c.def_ 22 (d := f_is_permutation) rfl
  obtain ⟨fd23, F23⟩ := c.def_ 23 (d := f__permuted) rfl
  obtain ⟨fd24, F24⟩ := c.def_ 24 (d := f__sorted_by_script) rfl
  obtain ⟨fd25, F25⟩ := c.def_ 25 (d := f_run) rfl
  obtain ⟨fd26, F26⟩ := c.def_ 26 (d := f__law_kept) rfl
  obtain ⟨fd27, F27⟩ := c.def_ 27 (d := f__law_ended) rfl
  obtain ⟨fd28, F28⟩ := c.def_ 28 (d := f_law) rfl
  have e := hfa.symm.trans (He.glo_ok X G (c.fact 28 (f := .glo "law") rfl))
  cases e
  have b := FunD.bindsA (ps := ["script"]) F28 fun _ _ _ _ _ _ us hl => match us, hl with | [_], _ => rfl
  have lk : ∃ o, K.lookup (He.ga K "law") = some o := by
    obtain ⟨⟨oc, od, kV, doc, pm, an, cdv, ct, osl, _, h2, _⟩, _⟩ := (toFun F28 : Fun K "law" "law" s_law _ _)
    exact ⟨_, h2⟩
  have ek := lookup_with (T := tabAt K tq) lk
  exact ⟨withT K _ (tabAt K tq), fd28, ek, tabF_with, fun s v => b s [v] rfl, fun base _ _ TB => ok_law (⟨_, fd0, L2.Fun.cong ek (toFun F0), He.glo_ok X G (c.fact 0 (f := .glo "_law_open") rfl), _, fd1, L2.Fun.cong ek (toFun F1), He.glo_ok X G (c.fact 1 (f := .glo "_law_spread") rfl), _, fd2, L2.Fun.cong ek (toFun F2), He.glo_ok X G (c.fact 2 (f := .glo "_law_take") rfl), _, fd3, L2.Fun.cong ek (toFun F3), He.glo_ok X G (c.fact 3 (f := .glo "_law_subset") rfl), _, fd4, L2.Fun.cong ek (toFun F4), He.glo_ok X G (c.fact 4 (f := .glo "_law_draw_schema") rfl), _, fd5, L2.Fun.cong ek (toFun F5), He.glo_ok X G (c.fact 5 (f := .glo "_law_cells") rfl), _, fd6, L2.Fun.cong ek (toFun F6), He.glo_ok X G (c.fact 6 (f := .glo "_law_one_way") rfl), _, fd7, L2.Fun.cong ek (toFun F7), He.glo_ok X G (c.fact 7 (f := .glo "_law_first") rfl), _, fd8, L2.Fun.cong ek (toFun F8), He.glo_ok X G (c.fact 8 (f := .glo "_law_mixed") rfl), _, fd9, L2.Fun.cong ek (toFun F9), He.glo_ok X G (c.fact 9 (f := .glo "_law_draw_step") rfl), _, fd10, L2.Fun.cong ek (toFun F10), He.glo_ok X G (c.fact 10 (f := .glo "_law_draw_report") rfl), _, fd11, L2.Fun.cong ek (toFun F11), He.glo_ok X G (c.fact 11 (f := .glo "_law_fits") rfl), _, fd12, L2.Fun.cong ek (toFun F12), He.glo_ok X G (c.fact 12 (f := .glo "_law_draw_table") rfl), _, fd13, L2.Fun.cong ek (toFun F13), He.glo_ok X G (c.fact 13 (f := .glo "projected") rfl), _, fd14, L2.Fun.cong ek (toFun F14), He.glo_ok X G (c.fact 14 (f := .glo "_group_row") rfl), _, fd15, L2.Fun.cong ek (toFun F15), He.glo_ok X G (c.fact 15 (f := .glo "_grouped") rfl), _, fd16, L2.Fun.cong ek (toFun F16), He.glo_ok X G (c.fact 16 (f := .glo "stable_permutation") rfl), _, fd17, L2.Fun.cong ek (toFun F17), He.glo_ok X G (c.fact 17 (f := .glo "rows_after") rfl), _, fd18, L2.Fun.cong ek (toFun F18), He.glo_ok X G (c.fact 18 (f := .glo "kept_after") rfl), _, fd19, L2.Fun.cong ek (toFun F19), He.glo_ok X G (c.fact 19 (f := .glo "first_script") rfl), _, fd20, L2.Fun.cong ek (toFun F20), He.glo_ok X G (c.fact 20 (f := .glo "_law_same") rfl), _, fd21, L2.Fun.cong ek (toFun F21), He.glo_ok X G (c.fact 21 (f := .glo "is_plain_integer") rfl), _, fd22, L2.Fun.cong ek (toFun F22), He.glo_ok X G (c.fact 22 (f := .glo "is_permutation") rfl), _, fd23, L2.Fun.cong ek (toFun F23), He.glo_ok X G (c.fact 23 (f := .glo "_permuted") rfl), _, fd24, L2.Fun.cong ek (toFun F24), He.glo_ok X G (c.fact 24 (f := .glo "_sorted_by_script") rfl), _, fd25, L2.Fun.cong ek (toFun F25), He.glo_ok X G (c.fact 25 (f := .glo "run") rfl), _, fd26, L2.Fun.cong ek (toFun F26), He.glo_ok X G (c.fact 26 (f := .glo "_law_kept") rfl), _, fd27, L2.Fun.cong ek (toFun F27), He.glo_ok X G (c.fact 27 (f := .glo "_law_ended") rfl), _, fd28, L2.Fun.cong ek (toFun F28), He.glo_ok X G (c.fact 28 (f := .glo "law") rfl), He.free_ok X G (c.fact 29 (f := .free "all") rfl), He.free_ok X G (c.fact 30 (f := .free "bool") rfl), He.free_ok X G (c.fact 31 (f := .free "enumerate") rfl), He.free_ok X G (c.fact 32 (f := .free "int") rfl), He.free_ok X G (c.fact 33 (f := .free "isinstance") rfl), He.free_ok X G (c.fact 34 (f := .free "len") rfl), He.free_ok X G (c.fact 35 (f := .free "list") rfl), He.free_ok X G (c.fact 36 (f := .free "range") rfl), He.free_ok X G (c.fact 37 (f := .free "repr") rfl), He.free_ok X G (c.fact 38 (f := .free "set") rfl), He.free_ok X G (c.fact 39 (f := .free "sorted") rfl), He.free_ok X G (c.fact 40 (f := .free "str") rfl), He.free_ok X G (c.fact 41 (f := .free "sum") rfl), He.free_ok X G (c.fact 42 (f := .free "tuple") rfl), He.free_ok X G (c.fact 43 (f := .free "zip") rfl), _, ⟨_, He.glo_ok X G (c.fact 44 (f := .glo "SORTING") rfl), rfl⟩, fun F => .tup ((c.tup 0 (x := "SORTING") (vs := [(.str "sort"), (.str "stable")]) rfl F).cong ek) (.cons (.str _) (.cons (.str _) .nil)), _, _, TB _ (cc.cm 0 (p := ("_law_one_way", none)) rfl), code_of cc 0 (toFun F6 : Fun K "_law_one_way" "_law_one_way" s__law_one_way _ _) rfl, by rw [tabF_with]; exact cc.mem 0 rfl, by rw [tabF_with]; exact cc.uniq 0 rfl, _, _, TB _ (cc.cm 1 (p := ("_law_first", none)) rfl), code_of cc 1 (toFun F7 : Fun K "_law_first" "_law_first" s__law_first _ _) rfl, by rw [tabF_with]; exact cc.mem 1 rfl, by rw [tabF_with]; exact cc.uniq 1 rfl, _, _, TB _ (cc.cm 2 (p := ("stable_permutation", none)) rfl), code_of cc 2 (toFun F16 : Fun K "stable_permutation" "stable_permutation" s_stable_permutation _ _) rfl, by rw [tabF_with]; exact cc.mem 2 rfl, by rw [tabF_with]; exact cc.uniq 2 rfl⟩ : Txt P w base (withT K _ (tabAt K tq)) mg) holds⟩
end Lw
open PySem PySem.W PySem.Calls PyProof.Rows
set_option maxRecDepth 100000 in
set_option maxHeartbeats 0 in
theorem PySem.Challenge.cw_openties_k10_first_scripts_holds : PySem.Challenge.rw_openties_k10_first_scripts.Holds := by
  w_on; o_law
  refine HandSHeadRun.head_any (r := OpenLaw.row PySem.Challenge.rw_openties_k10_first_scripts) (q := view (OpenLaw.row PySem.Challenge.rw_openties_k10_first_scripts).prog [38]) (H := Lw.hk) (ob := Lw.ob) (M := 4000) (loose := Lw.looseN) (d := HandSHeadRun.topDef (OpenLaw.row PySem.Challenge.rw_openties_k10_first_scripts).prog 38) (kwd := []) Lw.ob_eq
    (by kernel_rfl) (fun s => by kernel_rfl) Lw.run (by kernel_rfl) (by kernel_rfl) (by kernel_rfl) (by rfl) (by first | assumption | decide +kernel) (by decide +kernel) ⟨rfl, rfl, rfl, rfl, rfl, by decide +kernel⟩ ?hw ?hc
  case hw => w_witness2
  case hc =>
    refine Pu.walk_ofH (l := PySem.Challenge.rw_openties_k10_first_scripts) (n := 63) (k := 10) (x := "script") (fa := Lw.fa) (fn := Lw.fn) (tb := Lw.tb) (tq := Lw.tq) rfl (by decide) (by kernel_rfl) ⟨rfl, by decide, by decide⟩ ?F
    intro w mg f h K KX c G hmg0
    have hmg : mg ("law" : PySem.Str) = some (.ref f) := by
      have e : (HandSHeadRun.topDef (OpenLaw.row PySem.Challenge.rw_openties_k10_first_scripts).prog 38).name = ("law" : PySem.Str) := by kernel_rfl
      rw [← e]
      exact hmg0
    obtain ⟨K', fd, ek, et, hb, hF⟩ := Lw.facts (P := (PySem.Challenge.rw_openties_k10_first_scripts).prog) (w := w) Lw.holds KX c G hmg
    exact ⟨K', fd, Pu.spLawTop K', ek, hb, fun H a ns hl hT hS => ⟨a, ns, rfl, hS, hl, by rw [et]; exact Pu.tab_codes hT, fun _ => rfl⟩, hF⟩
